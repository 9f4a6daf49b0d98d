"""Words of brackets, and the bows that they tell."""

from ringmaze.bows import crossing
from ringmaze.errors import NoWord
from ringmaze.words import is_whole

MOST_SIGNS = 40


def is_word(thing):
    """Tell whether a thing is a text of brackets, at most forty, that all close."""
    if not isinstance(thing, str) or len(thing) > MOST_SIGNS:
        return False
    waiting = 0
    for sign in thing:
        if sign == "(":
            waiting += 1
        elif sign == ")":
            waiting -= 1
        else:
            return False
        if waiting < 0:
            return False
    return waiting == 0


def pairs(word):
    """Tell the bows of a word, in order of their first ends."""
    if not is_word(word):
        raise NoWord("no word of brackets")
    waiting = []
    bows = []
    for end, sign in enumerate(word):
        if sign == "(":
            waiting.append(end)
        else:
            bows.append((waiting.pop(), end))
    return sorted(bows)


def is_bow(thing):
    """Tell whether a thing is a tuple of two whole numbers, the lesser one first."""
    if not isinstance(thing, tuple) or len(thing) != 2:
        return False
    return is_whole(thing[0]) and is_whole(thing[1]) and thing[0] < thing[1]


def fills_a_word(thing):
    """Tell whether a thing is a list of bows with the ends of a word, each once."""
    if not isinstance(thing, list) or 2 * len(thing) > MOST_SIGNS:
        return False
    if not all([is_bow(bow) for bow in thing]):
        return False
    ends = [bow[0] for bow in thing] + [bow[1] for bow in thing]
    return sorted(ends) == list(range(len(ends)))


def word_of(bows):
    """Tell the word of which the bows are these, in whatever order they stand."""
    if not fills_a_word(bows):
        raise NoWord("not the bows of a word")
    if crossing(bows) is not None:
        raise NoWord("bows of a word don't cross")
    firsts = [bow[0] for bow in bows]
    return "".join(["(" if end in firsts else ")" for end in range(2 * len(bows))])
