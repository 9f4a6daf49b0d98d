"""A desk that keeps drawable mazes by names, and answers rows of words."""

from ringmaze.codes import coded, decoded
from ringmaze.counts import count, number_of, numbered
from ringmaze.drawing import drawn
from ringmaze.errors import NoName, NoRow
from ringmaze.mazes import vet
from ringmaze.nesting import apart, within
from ringmaze.turning import inside_out, mirrored

SMALL_LETTERS = "abcdefghijklmnopqrstuvwxyz"
FIGURES = "0123456789"
LONGEST_NAME = 8
MOST_FIGURES = 60

# What the words behind each first word ought to be: `new` a name to keep a maze by, `kept` a name by which one
# stands, `whole` a whole number, `any` whatever it is. The form of `maze` is as long as the maze.
FORMS = {
    "code": (("kept",), ("new", "any", "any")),
    "pick": (("new", "any", "whole", "whole"),),
    "show": (("kept",),),
    "draw": (("kept",),),
    "number": (("kept",),),
    "mirror": (("new", "kept"),),
    "turn": (("new", "kept"),),
    "within": (("new", "kept", "kept"),),
    "apart": (("kept",),),
    "same": (("kept", "kept"),),
    "count": (("whole",),),
}


def form_of(words):
    """Tell what each word behind the first one ought to be; a row that is not listed is refused."""
    behind = len(words) - 1
    if words[0] == "maze" and behind >= 2:
        return ("new", "any") + ("whole",) * (behind - 2)
    for form in FORMS.get(words[0], ()):
        if len(form) == behind:
            return form
    raise NoRow("not the words of a row")


def is_made_of(word, signs, longest):
    """Tell whether a word has a sign, at most so many, and none but these."""
    return 1 <= len(word) <= longest and all([sign in signs for sign in word])


def is_name(word):
    """Tell whether a word is a name."""
    return is_made_of(word, SMALL_LETTERS, LONGEST_NAME)


def is_figures(word):
    """Tell whether a word is a whole number, without noughts ahead."""
    return is_made_of(word, FIGURES, MOST_FIGURES) and (word == "0" or word[0] != "0")


def vetted(maze):
    """Tell a drawable maze itself, and refuse any other thing."""
    vet(maze)
    return maze


def made(first, values):
    """Tell the maze that a row makes, by its first word and what stands behind the new name."""
    if first == "maze":
        return vetted((values[0], tuple(values[1:])))
    if first == "code":
        return decoded(values[0], values[1])
    if first == "pick":
        return numbered(values[0], values[1], values[2])
    if first == "mirror":
        return mirrored(values[0])
    if first == "turn":
        return inside_out(values[0])
    return within(values[0], values[1])


def shown(maze):
    """Tell the side and the rings of a maze in a row."""
    return " ".join([maze[0]] + [str(ring) for ring in maze[1]])


def parts_told(maze):
    """Tell the number of parts of a maze, and the number of rings of each."""
    parts = apart(maze)
    return " ".join([str(len(parts))] + [str(len(part[1])) for part in parts])


def answer(first, values):
    """Tell the answer to a row that makes no maze, by its first word and what stands behind it."""
    if first == "show":
        return shown(values[0])
    if first == "draw":
        return drawn(values[0])
    if first == "code":
        return coded(values[0])
    if first == "number":
        return str(number_of(values[0]))
    if first == "apart":
        return parts_told(values[0])
    if first == "same":
        return "yes" if values[0] == values[1] else "no"
    return str(count(values[0]))


class Desk:
    """Keeps drawable mazes by names."""

    def __init__(self):
        self.kept = {}

    def value_of(self, word, kind):
        """Tell what a word stands for: the kept maze, the whole number, or the word itself."""
        if kind == "new" and not is_name(word):
            raise NoName("no name")
        if kind == "kept" and word not in self.kept:
            raise NoName("no name by which a maze stands")
        if kind == "whole" and not is_figures(word):
            raise NoRow("no whole number")
        if kind == "kept":
            return self.kept[word]
        return int(word) if kind == "whole" else word

    def say(self, row):
        """Tell the answer to a row; a row that is refused changes nothing."""
        if not isinstance(row, str):
            raise NoRow("no text")
        words = row.split(" ")
        form = form_of(words)
        values = [self.value_of(word, kind) for word, kind in zip(words[1:], form)]
        if form[0] != "new":
            return answer(words[0], values)
        self.kept[values[0]] = made(words[0], values[1:])
        return "ok"
