"""Points 22 and 23: two bows turned, and rounds cut out and laid in."""

import copy
import itertools
import unittest

from samples import (LONG_PAIRS, LONG_WORDS, NO_NUMBERS, NO_PAIRS, NO_WORDS, SHORT_PAIRS, SIXTY_FIGURES, plain_rounds,
                     words_of_length)
from ringmaze.brackets import is_word, pairs
from ringmaze.errors import Crossed, NoBow, NoWord
from ringmaze.rounds import rounds
from ringmaze.turns import cut_out, laid_in, turned

SHORT_WORDS = [word for length in range(0, 9, 2) for word in words_of_length(length)]
FAR_NUMBERS = [-1, -2, -40, 41, 100, SIXTY_FIGURES, -SIXTY_FIGURES]


def turned_bows(word, i, j):
    """The bows behind a turn, straight from the words of the document."""
    bows = pairs(word)
    (a, b), (c, d) = bows[i], bows[j]
    new = [(a, c), (d, b)] if a < c < d < b else [(a, d), (b, c)]
    return sorted(bow for bow in bows + new if bow not in ((a, b), (c, d)))


def all_crossings(bows):
    return [(one, two) for one, two in itertools.product(bows, repeat=2) if one[0] < two[0] < one[1] < two[1]]


def turns_of(word):
    return itertools.combinations(range(len(word) // 2), 2)


class TurnedTest(unittest.TestCase):
    def check(self, word, i, j):
        """Whether the turn can be done, and does what it should either way."""
        bows = turned_bows(word, i, j)
        crossings = all_crossings(bows)
        if not crossings:
            told = turned(word, i, j)
            self.assertIs(is_word(told), True)
            self.assertEqual(pairs(told), bows, (word, i, j))
            return True
        with self.assertRaises(Crossed) as caught:
            turned(word, i, j)
        self.assertIs(type(caught.exception.bows), tuple)
        self.assertIn(caught.exception.bows, crossings, (word, i, j))
        return False

    def test_ordinary_words(self):
        self.assertEqual(turned("()()", 0, 1), "(())")
        self.assertEqual(turned("(())", 0, 1), "()()")
        self.assertEqual(turned("(())()", 0, 2), "(()())")
        self.assertEqual(turned("(()())", 1, 2), "((()))")
        self.assertEqual(turned("((()))", 0, 1), "()()()")

    def test_the_only_bows_that_cross(self):
        for word, i, j, crossings in [
                ("((()))", 0, 2, {((0, 2), (1, 4)), ((1, 4), (3, 5))}),
                ("(())()", 1, 2, {((0, 3), (1, 5)), ((0, 3), (2, 4))}),
                ("()(())", 0, 2, {((0, 4), (2, 5)), ((1, 3), (2, 5))})]:
            with self.assertRaises(Crossed) as caught:
                turned(word, i, j)
            self.assertIn(caught.exception.bows, crossings)

    def test_each_turn_of_words_of_up_to_eight_ends(self):
        done = [self.check(word, i, j) for word in SHORT_WORDS for i, j in turns_of(word)]
        self.assertIn(True, done)
        self.assertIn(False, done)

    def test_forty_ends(self):
        done = [self.check(word, i, j) for word in LONG_WORDS for i, j in turns_of(word)]
        self.assertIn(True, done)
        self.assertIn(False, done)

    def test_a_turn_can_be_turned_back(self):
        for word in SHORT_WORDS:
            for i, j in turns_of(word):
                if not all_crossings(turned_bows(word, i, j)):
                    there = turned(word, i, j)
                    new = sorted(bow for bow in pairs(there) if bow not in pairs(word))
                    self.assertEqual(len(new), 2)
                    back = [pairs(there).index(bow) for bow in new]
                    self.assertEqual(turned(there, back[0], back[1]), word)

    def test_one_turn_makes_the_rounds_one_more_or_one_fewer(self):
        changes = []
        for word in SHORT_WORDS:
            for i, j in turns_of(word):
                if not all_crossings(turned_bows(word, i, j)):
                    there = turned(word, i, j)
                    for other in words_of_length(len(word)):
                        changes.append(len(rounds(there, other)) - len(rounds(word, other)))
                        changes.append(len(rounds(other, there)) - len(rounds(other, word)))
        self.assertEqual(set(changes), {-1, 1})

    def test_one_turn_of_forty_ends(self):
        changes = []
        for word, other in LONG_PAIRS[::9]:
            for i, j in turns_of(word):
                if not all_crossings(turned_bows(word, i, j)):
                    there = turned(word, i, j)
                    changes.append(len(rounds(there, other)) - len(rounds(word, other)))
        self.assertEqual(set(changes), {-1, 1})

    def test_numbers_equal_or_the_wrong_way_about_or_out_of_bounds(self):
        for word in SHORT_WORDS + ["()" * 20]:
            many = len(word) // 2
            for i in range(-many - 2, many + 3):
                for j in range(-many - 2, many + 3):
                    if not 0 <= i < j < many:
                        self.assertRaises(NoBow, turned, word, i, j)

    def test_what_is_no_number(self):
        for word in ["", "()", "()()", "(())", "(()())()", "()" * 20]:
            for thing in NO_NUMBERS + FAR_NUMBERS:
                with self.subTest(word=word, thing=thing):
                    self.assertRaises(NoBow, turned, word, thing, 1)
                    self.assertRaises(NoBow, turned, word, 0, thing)
                    self.assertRaises(NoBow, turned, word, thing, thing)
        for i, j in [(0, True), (False, 1), (False, True), (True, 2), (False, 3), (True, None), ("0", "1"), (None, None)]:
            self.assertRaises(NoBow, turned, "()()()()", i, j)

    def test_no_number_is_told_ahead_of_what_crosses(self):
        self.assertRaises(Crossed, turned, "((()))", 0, 2)
        for i, j in [(False, 2), (2, 0), (0, "2"), (0, None), (0, 3), (-3, 2), (0, -1), (-3, -1), (0, [2])]:
            self.assertRaises(NoBow, turned, "((()))", i, j)

    def test_no_word_is_told_ahead_of_both(self):
        for thing in NO_WORDS:
            with self.subTest(thing=thing):
                for i, j in [(0, 1), (0, 2), (1, 0), (0, 0), (-1, 5), (True, None), ("", []), (0, SIXTY_FIGURES)]:
                    self.assertRaises(NoWord, turned, thing, i, j)

    def test_things_handed_in_stay_as_they_were(self):
        thing = [[0], (1, [2])]
        kept = copy.deepcopy(thing)
        self.assertRaises(NoBow, turned, "()()", thing, 1)
        self.assertRaises(NoBow, turned, "()()", 0, thing)
        self.assertRaises(NoWord, turned, thing, 0, 1)
        self.assertEqual(thing, kept)


def renumbered(found, number):
    """The rounds without one of them, the ends numbered anew."""
    left = sorted(end for k, ends in enumerate(found) if k != number for end in ends)
    return [[left.index(end) for end in ends] for k, ends in enumerate(found) if k != number]


class CutOutTest(unittest.TestCase):
    def check(self, left, right, number):
        found = plain_rounds(left, right)
        told = cut_out(left, right, number)
        self.assertIs(type(told), tuple)
        self.assertEqual(len(told), 2)
        for before, behind in zip((left, right), told):
            self.assertIs(is_word(behind), True)
            self.assertEqual(behind, "".join(sign for k, sign in enumerate(before) if k not in found[number]))
        self.assertEqual(rounds(*told), renumbered(found, number), (left, right, number))

    def test_ordinary_words(self):
        self.assertEqual(cut_out("()", "()", 0), ("", ""))
        self.assertEqual(cut_out("(())", "()()", 0), ("", ""))
        self.assertEqual(cut_out("((()))", "(()())", 0), ("(())", "()()"))
        self.assertEqual(cut_out("((()))", "(()())", 1), ("()", "()"))

    def test_each_round_of_words_of_up_to_eight_ends(self):
        for left, right in SHORT_PAIRS:
            for number in range(len(plain_rounds(left, right))):
                self.check(left, right, number)

    def test_forty_ends(self):
        for left, right in LONG_PAIRS:
            for number in range(len(plain_rounds(left, right))):
                self.check(left, right, number)

    def test_what_is_no_number_of_a_round(self):
        for left, right in SHORT_PAIRS:
            many = len(plain_rounds(left, right))
            for number in [many, many + 1, -1, -many, -many - 1, len(left)]:
                if number < 0 or number >= many:
                    self.assertRaises(NoBow, cut_out, left, right, number)
        for left, right in [("", ""), ("()", "()"), ("()()", "()()"), ("()" * 20, "()" * 20)]:
            for thing in NO_NUMBERS + FAR_NUMBERS:
                with self.subTest(left=left, thing=thing):
                    self.assertRaises(NoBow, cut_out, left, right, thing)

    def test_no_word_is_told_ahead(self):
        for left, right in NO_PAIRS:
            for number in [0, 1, -1, True, None, "", [0]]:
                self.assertRaises(NoWord, cut_out, left, right, number)

    def test_things_handed_in_stay_as_they_were(self):
        thing = [[0], (1, [2])]
        kept = copy.deepcopy(thing)
        self.assertRaises(NoBow, cut_out, "()", "()", thing)
        self.assertRaises(NoWord, cut_out, thing, "()", 0)
        self.assertRaises(NoWord, cut_out, "()", thing, 0)
        self.assertEqual(thing, kept)


def laid_rounds(found, place, other, length):
    """The rounds of both pairs, with the ends that they have when the others lie at a place."""
    outer = [[end if end < place else end + length for end in ends] for ends in found]
    inner = [[end + place for end in ends] for ends in other]
    return sorted(outer + inner)


class LaidInTest(unittest.TestCase):
    def check(self, pair, place, other):
        left, right = pair
        told = laid_in(left, right, place, *other)
        self.assertIs(type(told), tuple)
        self.assertEqual(told, (left[:place] + other[0] + left[place:], right[:place] + other[1] + right[place:]))
        length = len(other[0])
        self.assertEqual(rounds(*told), laid_rounds(plain_rounds(*pair), place, plain_rounds(*other), length))

    def test_ordinary_words(self):
        self.assertEqual(laid_in("()", "()", 0, "(())", "()()"), ("(())()", "()()()"))
        self.assertEqual(laid_in("()", "()", 1, "(())", "()()"), ("((()))", "(()())"))
        self.assertEqual(laid_in("()", "()", 2, "(())", "()()"), ("()(())", "()()()"))
        self.assertEqual(laid_in("", "", 0, "(())", "()()"), ("(())", "()()"))
        self.assertEqual(laid_in("(())", "()()", 3, "", ""), ("(())", "()()"))
        self.assertEqual(laid_in("", "", 0, "", ""), ("", ""))

    def test_at_every_place_of_words_of_up_to_eight_ends(self):
        for pair in SHORT_PAIRS:
            for other in SHORT_PAIRS[:10] + SHORT_PAIRS[-3:]:
                for place in range(len(pair[0]) + 1):
                    self.check(pair, place, other)

    def test_every_pair_of_up_to_eight_ends_laid_in(self):
        for pair in SHORT_PAIRS[:10] + SHORT_PAIRS[-3:]:
            for other in SHORT_PAIRS:
                for place in range(len(pair[0]) + 1):
                    self.check(pair, place, other)

    def test_what_is_laid_in_can_be_cut_out_again(self):
        for pair in SHORT_PAIRS:
            for other in [("()", "()"), ("(())", "()()"), ("()(())", "(())()")]:
                for place in range(len(pair[0]) + 1):
                    told = laid_in(*pair, place, *other)
                    [number] = [k for k, ends in enumerate(rounds(*told)) if ends[0] == place]
                    self.assertEqual(cut_out(*told, number), pair)

    def test_up_to_forty_ends_together(self):
        for length in range(0, 41, 2):
            pair = ("()" * (length // 2), "(" * (length // 2) + ")" * (length // 2))
            rest = (40 - length) // 2
            for place in range(length + 1):
                self.check(pair, place, ("(" * rest + ")" * rest, "()" * rest))
        for pair in LONG_PAIRS[::20]:
            for place in range(41):
                self.check(pair, place, ("", ""))
            self.check(("", ""), 0, pair)

    def test_more_than_forty_ends_together(self):
        for length in range(2, 41, 2):
            pair = ("()" * (length // 2), "(" * (length // 2) + ")" * (length // 2))
            for more in range((42 - length) // 2, 21):
                for place in [0, 1, length, -1, length + 1, True, None, "", [0]]:
                    with self.subTest(length=length, more=more, place=place):
                        self.assertRaises(NoWord, laid_in, *pair, place, "()" * more, "()" * more)

    def test_what_is_no_place(self):
        for pair in SHORT_PAIRS[:31] + LONG_PAIRS[:1]:
            length = len(pair[0])
            for place in [length + 1, length + 2, -1, -length - 1, -2] + NO_NUMBERS + FAR_NUMBERS:
                with self.subTest(pair=pair, place=place):
                    self.assertRaises(NoBow, laid_in, *pair, place, "", "")
                    if length < 40:
                        self.assertRaises(NoBow, laid_in, *pair, place, "()", "()")

    def test_the_place_is_one_of_the_words_that_are_laid_in(self):
        self.assertRaises(NoBow, laid_in, "()", "()", 3, "(())", "(())")
        self.assertRaises(NoBow, laid_in, "", "", 1, "(())", "(())")
        self.assertRaises(NoBow, laid_in, "", "", 2, "()", "()")

    def test_no_word_is_told_ahead(self):
        for pair in NO_PAIRS:
            for place in [0, 1, 100, -1, True, None, "", [0]]:
                self.assertRaises(NoWord, laid_in, *pair, place, "", "")
                self.assertRaises(NoWord, laid_in, *pair, place, "()", "()")
                self.assertRaises(NoWord, laid_in, "", "", place, *pair)
                self.assertRaises(NoWord, laid_in, "()", "()", place, *pair)
                self.assertRaises(NoWord, laid_in, *pair, place, *pair)

    def test_lengths_are_held_against_each_other_within_each_pair(self):
        self.assertRaises(NoWord, laid_in, "()", "()()", 0, "()()", "()")
        self.assertRaises(NoWord, laid_in, "", "()", 0, "()", "")
        self.assertEqual(laid_in("()", "()", 0, "(())", "(())"), ("(())()", "(())()"))

    def test_things_handed_in_stay_as_they_were(self):
        thing = [[0], (1, [2])]
        kept = copy.deepcopy(thing)
        self.assertRaises(NoBow, laid_in, "()", "()", thing, "()", "()")
        for k in (0, 1, 3, 4):
            handed = ["()", "()", 0, "()", "()"]
            handed[k] = thing
            self.assertRaises(NoWord, laid_in, *handed)
        self.assertEqual(thing, kept)


if __name__ == "__main__":
    unittest.main()
