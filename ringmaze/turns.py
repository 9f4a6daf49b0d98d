"""Two bows of a word turned, and rounds cut out of two words and laid in."""

from ringmaze.bows import crossing, lies_within
from ringmaze.brackets import MOST_SIGNS, pairs, word_of
from ringmaze.errors import Crossed, NoBow, NoWord
from ringmaze.rounds import rounds, vet_words
from ringmaze.words import is_below


def turn_of(one, two):
    """Tell the two bows that two bows become when they are turned; the first one begins first."""
    if lies_within(two, one):
        return [(one[0], two[0]), (two[1], one[1])]
    return [(one[0], two[1]), (one[1], two[0])]


def turned(word, i, j):
    """Tell the word in which the bows of the numbers i and j, i less than j, are turned."""
    bows = pairs(word)
    if not is_below(j, len(bows)) or not is_below(i, j):
        raise NoBow("not the numbers of two bows, the lesser one first")
    others = [bow for bow in bows if bow != bows[i] and bow != bows[j]]
    told = others + turn_of(bows[i], bows[j])
    found = crossing(told)
    if found is not None:
        raise Crossed(found)
    return word_of(told)


def without(word, ends):
    """Tell a word without the signs at some ends."""
    return "".join([sign for end, sign in enumerate(word) if end not in ends])


def cut_out(left, right, number):
    """Tell both words without the ends of the round of that number."""
    told = rounds(left, right)
    if not is_below(number, len(told)):
        raise NoBow("not the number of a round")
    ends = told[number]
    return (without(left, ends), without(right, ends))


def put_in(word, place, other):
    """Tell a word with another one put in ahead of the sign at a place, or behind all."""
    return word[:place] + other + word[place:]


def laid_in(left, right, place, other_left, other_right):
    """Tell two words with two other ones laid in at a place, left in left and right in right."""
    vet_words(left, right)
    vet_words(other_left, other_right)
    if len(left) + len(other_left) > MOST_SIGNS:
        raise NoWord("too many ends together")
    if not is_below(place, len(left) + 1):
        raise NoBow("no place in these words")
    return (put_in(left, place, other_left), put_in(right, place, other_right))
