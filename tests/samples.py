"""What several tests draw from: things of every kind, words, ways to join ends, mazes, and pieces of ways."""

import itertools

SIXTY_FIGURES = int("9" * 60)

# Any thing, as the document bounds it: whole numbers, truths, None, texts, lists and tuples, five deep.
THINGS = [
    0, 1, 2, 20, 21, -1, -2, SIXTY_FIGURES, -SIXTY_FIGURES,
    True, False, None,
    "", " ", "l", "r", "L", "R", "lr", "rl", "l ", " l", "l\n", "left", "1", "()", "(", ")", ")(", "( )", "[]", "<>",
    "~" * 3000, "()" * 1500,
    [], [0], [1], [True], [None], [""], ["l"], ["()"], [[]], [()], [[[[[]]]]], ["l", []], ["l", (1,)],
    (), (0,), (1,), (2,), (True,), (None,), ("",), ("l",), ("()",), ([],), ((),), (((((),),),),), ("l", ()), ("l", (1,)),
    (1, 2), (0, 1), [(0, 1)], [[0, 1]], ((0, 1),), [(0, 1), None], [(0,)], [(0, 1, 2)],
]

# Things that are no number at all; True and False stand for 1 and 0 in careless hands.
NO_NUMBERS = [thing for thing in THINGS if type(thing) is not int] + ["0", "1", [0], (0,), [1], (0, 1), [[[[[0]]]]]]
NO_SIDES = ["", "L", "R", "lr", "rl", "ll", " l", "l ", "l\n", "left", "m", "|", 0, 1, True, False, None,
            [], ["l"], ("l",), [["l"]], ("l", "r"), ()]
UP = tuple(range(1, 21))
NO_ORDERS = [
    UP + (21,), tuple(range(1, 31)), UP + (20,), UP + (0,),
    (0,), (2,), (-1,), (SIXTY_FIGURES,), (0, 1), (1, 3), (2, 3), (1, 1), (2, 2), (1, 2, 2), (3, 1, 3), (1, -2), (-1, -2),
    UP[1:], UP[:10] + UP[11:], UP[:19] + (19,), UP[:19] + (21,), (0,) + UP[:19], (0,) + UP[1:],
    UP[:19] + (SIXTY_FIGURES,), UP[:19] + (-20,),
    (True,), (True, 2), (2, True), (False, 1), (False,), (True,) + UP[1:],
    ("1",), (1, "2"), ("l",), ("",), (1, None), (None,), ((1,),), ([1],), (1, (2,)), (1, [2]), ((),), ([],),
    [], [1], [2, 1], list(UP), "", "1", "12", 0, 1, 3, True, False, None,
]
NO_MAZES = (
    [(side, (1,)) for side in NO_SIDES] + [(side, ()) for side in NO_SIDES]
    + [(side, order) for side in ("l", "r") for order in NO_ORDERS]
    + [thing for thing in THINGS if thing not in (("l", ()), ("l", (1,)))]
) + [
    ("l", (1,), ()), ("l", (1,), None), ("l", (1,), "l"), ("l", 1), ("l", 2, 1), ("l",), ((1,),), (),
    ["l", (1,)], ["l", [1]], ("l", [1]), ((1,), "l"), (("l", (1,)),), [("l", (1,))], ("l", ("l", (1,))),
    "l", "l1", "", None, True, False, 0, 1, [], ("", ()), (None, ()), ("l", None), ("l", ""),
]


def words_of_length(length):
    """All words of so many signs, put together from the rule: empty, or `(` word `)` word."""
    if length == 0:
        return [""]
    told = []
    for inner in range(0, length - 1, 2):
        for first in words_of_length(inner):
            for rest in words_of_length(length - 2 - inner):
                told.append("(" + first + ")" + rest)
    return told


def long_word(seed, length):
    """A word of so many signs, another one for another seed."""
    word = ""
    waiting = 0
    for place in range(length):
        seed = (seed * 1103515245 + 12345) % 2 ** 31
        must_open = waiting == 0
        must_close = waiting == length - place
        if must_open or (not must_close and seed >> 16 & 1):
            word += "("
            waiting += 1
        else:
            word += ")"
            waiting -= 1
    return word


LONG_WORDS = (
    ["(" * 20 + ")" * 20, "()" * 20, "(())" * 10, "(" + "()" * 19 + ")", "((()))()" * 5]
    + [long_word(seed, length) for seed in range(1, 30) for length in (30, 38, 40)]
)

SHORT_PAIRS = [(left, right) for length in range(0, 9, 2)
               for left in words_of_length(length) for right in words_of_length(length)]
LONG_PAIRS = [(left, right) for left in LONG_WORDS[:20] for right in LONG_WORDS if len(left) == len(right) == 40]
NO_WORDS = [thing for thing in THINGS if thing not in ("", "()")] + [
    "(", ")", ")(", "(()", "())", "())(", "( )", "() ", " ()", "()\n", "(x)", "[]", "()" * 21, "(" * 21 + ")" * 21,
    ["(", ")"], ("(", ")"), ["()"], [(0, 1)], ("()", "()"),
]
UNLIKE_PAIRS = [(left, right) for left in ["", "()", "(())", "()()()", "()" * 19, "()" * 20]
                for right in ["", "()", "()()", "((()))", "(" * 19 + ")" * 19, "(" * 20 + ")" * 20]
                if len(left) != len(right)]
NO_PAIRS = (
    [(thing, word) for thing in NO_WORDS for word in ("", "()", "()()")]
    + [(word, thing) for thing in NO_WORDS for word in ("", "()", "()()")]
    + [(thing, thing) for thing in NO_WORDS] + UNLIKE_PAIRS
)


def plain_partner(word, end):
    """The other end of the bow of an end, by counting brackets from it on, or back from it."""
    step = 1 if word[end] == "(" else -1
    depth, here = step, end
    while depth:
        here += step
        depth += 1 if word[here] == "(" else -1
    return here


def plain_rounds(left, right):
    """The rounds of two words, walked end by end, straight from the words of the document."""
    told = []
    for least in range(len(left)):
        if not any(least in ends for ends in told):
            walked = [least]
            for word in itertools.cycle((left, right)):
                here = plain_partner(word, walked[-1])
                if here == least:
                    break
                walked.append(here)
            told.append(walked)
    return told


def joinings(ends):
    """All ways to join a list of ends, in rising order, two by two, crossing or not."""
    if not ends:
        return [[]]
    told = []
    for k in range(1, len(ends)):
        rest = ends[1:k] + ends[k + 1:]
        for others in joinings(rest):
            told.append([(ends[0], ends[k])] + others)
    return told


def disorders(things):
    """The list in some other orders: backwards, turned round, and odd places ahead of even ones."""
    half = len(things) // 2
    return [
        list(things),
        list(reversed(things)),
        things[half:] + things[:half],
        things[1::2] + things[0::2],
        list(reversed(things[1::2])) + things[0::2],
    ]


def other(side):
    return {"l": "r", "r": "l"}[side]


def plain_bows(maze):
    """The bows by side, in the order of the way, straight from the words of the document."""
    side, order = maze
    told = {"l": [], "r": []}
    here = 0
    for row in order + (len(order) + 1,):
        told[side].append((here, row) if here < row else (row, here))
        here, side = row, other(side)
    return told


def plain_crossings(maze):
    """All that may be told of two bows that cross, by a plain look at each two of one side."""
    told = []
    for side, bows in plain_bows(maze).items():
        for one, two in itertools.combinations(sorted(bows), 2):
            if one[0] < two[0] < one[1] < two[1]:
                told.append((side, one, two))
    return told


def plain_height(bow, bows):
    """The height of a bow among those of its side, straight from the words of the document."""
    within = [inner for inner in bows if bow[0] < inner[0] and inner[1] < bow[1]]
    return 1 + max([plain_height(inner, bows) for inner in within], default=0)


def mazes_of(rings):
    """All mazes of so many rings, drawable or not."""
    return [(side, order) for side in "lr" for order in itertools.permutations(range(1, rings + 1))]


SHORT_MAZES = [maze for rings in range(7) for maze in mazes_of(rings)]
SHORT_DRAWABLE = [maze for maze in SHORT_MAZES if not plain_crossings(maze)]
SEVEN_RINGS = [maze for maze in mazes_of(7) if not plain_crossings(maze)]
UP_TO_SEVEN = SHORT_DRAWABLE + SEVEN_RINGS
SHORT_CROSSED = [maze for maze in SHORT_MAZES if plain_crossings(maze)]
LONG_DRAWABLE = [
    ("l", UP), ("r", UP), ("l", UP[:19]), ("l", UP[18::-1]), ("r", UP[18::-1]), ("r", UP[16::-1]),
    ("l", (3, 2, 1, 4, 7, 6, 5)), ("r", (7, 6, 5, 2, 3, 4, 1, 8)),
    ("l", (3, 8, 5, 6, 7, 4, 9, 2, 1, 10, 11)), ("r", (3, 6, 5, 4, 11, 10, 7, 2, 1, 8, 9, 12)),
    ("l", (17, 6, 13, 14, 5, 4, 15, 8, 9, 10, 11, 12, 7, 16, 1, 2, 3, 18, 19)),
    ("l", (1, 8, 13, 14, 15, 16, 7, 6, 17, 18, 5, 4, 19, 12, 9, 10, 11, 20, 3, 2)),
    ("l", (11, 8, 9, 10, 7, 12, 13, 14, 15, 6, 3, 18, 19, 2, 1, 20, 17, 4, 5, 16)),
    ("r", (5, 16, 17, 4, 3, 18, 13, 14, 15, 6, 7, 8, 9, 12, 19, 2, 1, 20, 11, 10)),
    ("r", (1, 6, 17, 16, 7, 8, 15, 18, 5, 4, 19, 14, 9, 10, 13, 12, 11, 20, 3, 2)),
    ("r", (3, 18, 7, 14, 11, 10, 15, 6, 19, 2, 1, 20, 5, 16, 9, 12, 13, 8, 17, 4)),
    # As wide a drawing as there can be: ten bows within one another on each side.
    ("l", (1, 20, 3, 18, 5, 16, 7, 14, 9, 12, 11, 10, 13, 8, 15, 6, 17, 4, 19, 2)),
]
LONG_CROSSED = [
    ("l", UP[::-1]), ("r", UP[::-1]), ("l", UP[7:] + UP[:7]), ("r", UP[1::2] + UP[::2]), ("l", UP[::2] + UP[1::2]),
    ("r", UP[:16] + (18, 17, 20, 19)), ("l", (2, 1) + UP[2:]), ("r", (2, 1) + UP[2:19]),
]
DRAWABLE = SHORT_DRAWABLE + LONG_DRAWABLE


def plain_code(maze):
    """The letters of the rings, straight from the words of the document."""
    told = ""
    for ring in range(1, len(maze[1]) + 1):
        inwards = tuple(any(a == ring for a, b in plain_bows(maze)[side]) for side in "lr")
        told += {(True, True): "a", (True, False): "b", (False, True): "c", (False, False): "d"}[inwards]
    return told


def plain_begun(side):
    """The pieces behind row 0: the number of the piece of each bow that leads on, left and right, as a state has them."""
    return ((0,), ()) if side == "l" else ((), (0,))


def plain_step(pieces, letter):
    """The pieces behind one more ring, or None where the letter can't be; the mouth's piece has the number 0."""
    lefts, rights = list(pieces[0]), list(pieces[1])
    ended = []
    if letter in "cd":
        if not lefts:
            return None
        ended.append(lefts.pop())
    if letter in "bd":
        if not rights:
            return None
        ended.append(rights.pop(0))
    if len(ended) == 2 and ended[0] == ended[1]:
        return None
    number = min(ended, default=1 + max(lefts + rights, default=0))
    lefts = [number if piece in ended else piece for piece in lefts]
    rights = [number if piece in ended else piece for piece in rights]
    if letter in "ab":
        lefts.append(number)
    if letter in "ac":
        rights.insert(0, number)
    return (tuple(lefts), tuple(rights))


def plain_state(pieces):
    """The text of the pieces."""
    told, met = "", []
    for piece in pieces[0] + ("|",) + pieces[1]:
        told += "|" if piece == "|" else "*" if piece == 0 else ")" if piece in met else "("
        met.append(piece)
    return told


def plain_reached(side, rows):
    """The pieces of each state that is come to in up to so many rows, by its text."""
    newest = {plain_state(plain_begun(side)): plain_begun(side)}
    told = dict(newest)
    for row in range(rows):
        ahead = [plain_step(pieces, letter) for pieces in newest.values() for letter in "abcd"]
        newest = {plain_state(pieces): pieces for pieces in ahead if pieces is not None}
        told.update(newest)
    return told


def plain_fault(side, text):
    """The `at` with which a text of at most twenty signs is refused, or None where it is a code."""
    pieces = plain_begun(side)
    for at, sign in enumerate(text):
        pieces = plain_step(pieces, sign) if sign in "abcd" else None
        if pieces is None:
            return at
    return None if len(pieces[0] + pieces[1]) == 1 else len(text)
