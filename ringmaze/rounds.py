"""The closed rounds that two words of bows make."""

from ringmaze.brackets import is_word, pairs
from ringmaze.errors import NoWord


def vet_words(left, right):
    """Tell True of two words of the same length, and refuse any other things."""
    if not is_word(left) or not is_word(right):
        raise NoWord("no word of brackets")
    if len(left) != len(right):
        raise NoWord("words of unlike lengths")
    return True


def partners(word):
    """Tell for each end of a word the other end of its bow."""
    told = {}
    for a, b in pairs(word):
        told[a] = b
        told[b] = a
    return told


def round_from(end, lefts, rights):
    """Tell the ends of the round of an end, from it on, first by the left bow."""
    told = []
    here = end
    # Each end has one bow on either side, so the first end that is met a second time is the one it began with.
    while not told or here != end:
        across = lefts[here]
        told.append(here)
        told.append(across)
        here = rights[across]
    return told


def rounds(left, right):
    """Tell the rounds of two words, each from its least end on, in the order of these."""
    vet_words(left, right)
    lefts = partners(left)
    rights = partners(right)
    told = []
    met = {}
    for end in range(len(left)):
        if end not in met:
            ends = round_from(end, lefts, rights)
            told.append(ends)
            for one in ends:
                met[one] = True
    return told


def closings(left, right):
    """Tell for each right bow whether its ends are joined already, by the left bows and the right ones ahead."""
    vet_words(left, right)
    lefts = partners(left)
    # Ends that are joined, in however many steps, bear the same number here.
    groups = [min(end, lefts[end]) for end in range(len(left))]
    told = []
    for a, b in pairs(right):
        one = groups[a]
        two = groups[b]
        told.append(one == two)
        groups = [one if group == two else group for group in groups]
    return told
