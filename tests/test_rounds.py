"""Points 19, 20 and 21: the closed rounds of two words, and the bows that close them."""

import copy
import unittest

from samples import LONG_PAIRS, NO_PAIRS, SHORT_PAIRS, plain_partner, plain_rounds, words_of_length
from ringmaze.errors import NoWord
from ringmaze.rounds import closings, rounds

TEN_ENDS = [(left, right) for left in words_of_length(10) for right in words_of_length(10)]
ALL_PAIRS = SHORT_PAIRS + TEN_ENDS + LONG_PAIRS
NEST = "(" * 20 + ")" * 20
ROW = "()" * 20
SHIFTED = "(" + "()" * 19 + ")"


def bows_in_order(word):
    return [(end, plain_partner(word, end)) for end, sign in enumerate(word) if sign == "("]


def reached(end, bows):
    """All ends that are joined with an end by some bows, in however many steps."""
    found = {end}
    while True:
        more = {b for a, b in bows if a in found} | {a for a, b in bows if b in found}
        if more <= found:
            return found
        found |= more


def plain_closings(left, right):
    """The closings, straight from the words of the document: the ends joined one by one."""
    joined = bows_in_order(left)
    told = []
    for a, b in bows_in_order(right):
        told.append(b in reached(a, joined))
        joined.append((a, b))
    return told


class RoundsTest(unittest.TestCase):
    def test_no_ends(self):
        self.assertEqual(rounds("", ""), [])

    def test_ordinary_words(self):
        self.assertEqual(rounds("()", "()"), [[0, 1]])
        self.assertEqual(rounds("()()", "()()"), [[0, 1], [2, 3]])
        self.assertEqual(rounds("(())", "()()"), [[0, 3, 2, 1]])
        self.assertEqual(rounds("()()", "(())"), [[0, 1, 2, 3]])
        self.assertEqual(rounds("(())", "(())"), [[0, 3], [1, 2]])
        self.assertEqual(rounds("(())()", "()(())"), [[0, 3, 4, 5, 2, 1]])
        self.assertEqual(rounds("((()))", "(()())"), [[0, 5], [1, 4, 3, 2]])

    def test_each_pair_of_up_to_ten_ends(self):
        self.assertEqual(len(SHORT_PAIRS), 1 + 1 + 4 + 25 + 196)
        for left, right in SHORT_PAIRS + TEN_ENDS:
            self.assertEqual(rounds(left, right), plain_rounds(left, right), (left, right))

    def test_forty_ends(self):
        self.assertGreater(len(LONG_PAIRS), 100)
        for left, right in LONG_PAIRS:
            self.assertEqual(rounds(left, right), plain_rounds(left, right), (left, right))
        self.assertEqual(rounds(NEST, NEST), [[k, 39 - k] for k in range(20)])
        self.assertEqual(rounds(ROW, ROW), [[2 * k, 2 * k + 1] for k in range(20)])
        self.assertEqual(rounds(ROW, SHIFTED), [list(range(40))])
        self.assertEqual(rounds(SHIFTED, ROW), [[0] + list(range(39, 0, -1))])

    def test_each_end_is_in_one_round_and_each_step_a_bow(self):
        for left, right in ALL_PAIRS:
            told = rounds(left, right)
            self.assertEqual(sorted(end for ends in told for end in ends), list(range(len(left))))
            self.assertEqual([ends[0] for ends in told], sorted(min(ends) for ends in told))
            for ends in told:
                for k, end in enumerate(ends):
                    word = left if k % 2 == 0 else right
                    self.assertEqual(plain_partner(word, end), ends[(k + 1) % len(ends)])

    def test_kinds(self):
        for left, right in SHORT_PAIRS:
            told = rounds(left, right)
            self.assertIs(type(told), list)
            for ends in told:
                self.assertIs(type(ends), list)
                self.assertTrue(all(type(end) is int for end in ends))

    def test_lists_told_are_new_ones(self):
        for left, right in SHORT_PAIRS[:40] + LONG_PAIRS[:5]:
            first, second = rounds(left, right), rounds(left, right)
            kept = copy.deepcopy(second)
            self.assertIsNot(first, second)
            for one, two in zip(first, second):
                self.assertIsNot(one, two)
                one.append(7)
                one.reverse()
            first.reverse()
            first.append([0])
            self.assertEqual(second, kept)
            self.assertEqual(rounds(left, right), kept)


class ClosingsTest(unittest.TestCase):
    def test_no_ends(self):
        self.assertEqual(closings("", ""), [])

    def test_ordinary_words(self):
        self.assertEqual(closings("()", "()"), [True])
        self.assertEqual(closings("()()", "()()"), [True, True])
        self.assertEqual(closings("(())", "()()"), [False, True])
        self.assertEqual(closings("()()", "(())"), [False, True])
        self.assertEqual(closings("((()))", "(()())"), [True, False, True])
        self.assertEqual(closings("(())()", "()(())"), [False, False, True])

    def test_each_pair_of_up_to_ten_ends(self):
        for left, right in SHORT_PAIRS + TEN_ENDS:
            told = closings(left, right)
            self.assertEqual(told, plain_closings(left, right), (left, right))
            self.assertIs(type(told), list)
            self.assertTrue(all(type(truth) is bool for truth in told))

    def test_forty_ends(self):
        for left, right in LONG_PAIRS:
            self.assertEqual(closings(left, right), plain_closings(left, right), (left, right))
        self.assertEqual(closings(ROW, ROW), [True] * 20)
        self.assertEqual(closings(ROW, SHIFTED), [False] * 19 + [True])
        self.assertEqual(closings(SHIFTED, ROW), [False] * 19 + [True])

    def test_as_many_rounds_as_closings_that_are_true(self):
        for left, right in ALL_PAIRS:
            self.assertEqual(len(rounds(left, right)), sum(closings(left, right)), (left, right))

    def test_a_list_told_is_a_new_one(self):
        for left, right in SHORT_PAIRS[:40] + LONG_PAIRS[:5]:
            first, second = closings(left, right), closings(left, right)
            kept = list(second)
            self.assertIsNot(first, second)
            first.append(False)
            first.reverse()
            self.assertEqual(second, kept)
            self.assertEqual(closings(left, right), kept)


class RefusedTest(unittest.TestCase):
    def test_what_are_no_two_words_of_the_same_length(self):
        for left, right in NO_PAIRS:
            with self.subTest(left=left, right=right):
                self.assertRaises(NoWord, rounds, left, right)
                self.assertRaises(NoWord, closings, left, right)

    def test_things_handed_in_stay_as_they_were(self):
        for thing in [["(", ")"], [["()"]], ([1], [0]), [(0, 1)]]:
            kept = copy.deepcopy(thing)
            for tell in (rounds, closings):
                self.assertRaises(NoWord, tell, thing, "()")
                self.assertRaises(NoWord, tell, "()", thing)
                self.assertRaises(NoWord, tell, thing, thing)
            self.assertEqual(thing, kept)


if __name__ == "__main__":
    unittest.main()
