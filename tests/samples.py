"""What several tests draw from: things of every kind, words, and ways to join ends."""

SIXTY_FIGURES = int("9" * 60)

# Any thing, as the document bounds it: whole numbers, truths, None, texts, lists and tuples, five deep.
THINGS = [
    0, 1, 2, 20, 21, -1, -2, SIXTY_FIGURES, -SIXTY_FIGURES,
    True, False, None,
    "", " ", "l", "r", "L", "R", "lr", "rl", "l ", " l", "l\n", "left", "1", "()", "(", ")", ")(", "( )", "[]", "<>",
    "~" * 3000, "()" * 1500,
    [], [0], [1], [True], [None], [""], ["l"], ["()"], [[]], [()], [[[[[]]]]], ["l", []], ["l", (1,)],
    (), (0,), (1,), (2,), (True,), (None,), ("",), ("l",), ("()",), ([],), ((),), (((((),),),),), ("l", ()), ("l", (1,)),
    (1, 2), (0, 1), [(0, 1)], [[0, 1]], ((0, 1),), [(0, 1), None], [(0,)], [(0, 1, 2)],
]


def words_of_length(length):
    """All words of so many signs, put together from the rule: empty, or `(` word `)` word."""
    if length == 0:
        return [""]
    told = []
    for inner in range(0, length - 1, 2):
        for first in words_of_length(inner):
            for rest in words_of_length(length - 2 - inner):
                told.append("(" + first + ")" + rest)
    return told


def long_word(seed, length):
    """A word of so many signs, another one for another seed."""
    word = ""
    waiting = 0
    for place in range(length):
        seed = (seed * 1103515245 + 12345) % 2 ** 31
        must_open = waiting == 0
        must_close = waiting == length - place
        if must_open or (not must_close and seed >> 16 & 1):
            word += "("
            waiting += 1
        else:
            word += ")"
            waiting -= 1
    return word


LONG_WORDS = (
    ["(" * 20 + ")" * 20, "()" * 20, "(())" * 10, "(" + "()" * 19 + ")", "((()))()" * 5]
    + [long_word(seed, length) for seed in range(1, 30) for length in (30, 38, 40)]
)


def joinings(ends):
    """All ways to join a list of ends, in rising order, two by two, crossing or not."""
    if not ends:
        return [[]]
    told = []
    for k in range(1, len(ends)):
        rest = ends[1:k] + ends[k + 1:]
        for others in joinings(rest):
            told.append([(ends[0], ends[k])] + others)
    return told


def disorders(things):
    """The list in some other orders: backwards, turned round, and odd places ahead of even ones."""
    half = len(things) // 2
    return [
        list(things),
        list(reversed(things)),
        things[half:] + things[:half],
        things[1::2] + things[0::2],
        list(reversed(things[1::2])) + things[0::2],
    ]
