"""Point 6: bows that cross, and heights."""

import itertools
import unittest

from samples import LONG_WORDS, disorders, joinings, plain_height, words_of_length
from ringmaze.bows import crossing, heights
from ringmaze.brackets import pairs

SHORT_WORDS = [word for length in range(0, 11, 2) for word in words_of_length(length)]


def all_crossings(bows):
    return [((a, b), (c, d)) for a, b in bows for c, d in bows if a < c < b < d]


def heights_of_word(word):
    """The heights by each bow's first end: how deep the brackets go within it."""
    told = {}
    for a, b in pairs(word):
        deep = most = 0
        for sign in word[a:b + 1]:
            deep += 1 if sign == "(" else -1
            most = max(most, deep)
        told[a] = most
    return told


def spread(bows, numbers):
    """The same bows upon other numbers, in rising order."""
    return [(numbers[a], numbers[b]) for a, b in bows]


class CrossingTest(unittest.TestCase):
    def check(self, bows):
        kept = list(bows)
        told = crossing(bows)
        self.assertEqual(bows, kept)
        if all_crossings(bows):
            self.assertIs(type(told), tuple)
            self.assertIn(told, all_crossings(bows))
        else:
            self.assertIs(told, None)

    def test_none_cross(self):
        for bows in [[], [(0, 1)], [(0, 40)], [(7, 31)], [(0, 1), (2, 3)], [(2, 3), (0, 1)], [(0, 3), (1, 2)],
                     [(1, 2), (0, 3)], [(0, 9), (10, 40)], [(0, 40), (1, 39), (2, 38)]]:
            self.assertIs(crossing(bows), None, bows)

    def test_two_cross(self):
        for bows in [[(0, 2), (1, 3)], [(1, 3), (0, 2)], [(5, 40), (0, 6)], [(0, 39), (1, 40)]]:
            self.assertEqual(crossing(bows), tuple(sorted(bows)))

    def test_two_cross_among_others(self):
        bows = [(0, 11), (1, 2), (3, 6), (5, 8), (9, 10)]
        for order in itertools.permutations(bows):
            self.assertEqual(crossing(list(order)), ((3, 6), (5, 8)))

    def test_each_joining_of_few_ends(self):
        for k in range(6):
            for joined in joinings(list(range(2 * k))):
                for bows in disorders(joined):
                    self.check(bows)

    def test_numbers_left_out_between(self):
        for numbers in [[0, 2, 5, 9, 14, 20, 27, 40], [3, 4, 10, 11, 12, 30, 39, 40]]:
            for joined in joinings(list(range(8))):
                for bows in disorders(spread(joined, numbers)):
                    self.check(bows)

    def test_twenty_bows(self):
        for word in LONG_WORDS:
            for bows in disorders(pairs(word)):
                self.assertIs(crossing(bows), None)
        for bows in disorders([(a, a + 20) for a in range(20)]):
            self.check(bows)

    def test_one_crossing_in_a_long_list(self):
        for word in LONG_WORDS:
            bows = pairs(word)
            for k in range(len(bows) - 1):
                ends = sorted(bows[k] + bows[k + 1])
                crossed = bows[:k] + [(ends[1], ends[3]), (ends[0], ends[2])] + bows[k + 2:]
                for order in disorders(crossed):
                    self.check(order)


class HeightsTest(unittest.TestCase):
    def check(self, bows, told):
        kept = list(bows)
        answer = heights(bows)
        self.assertEqual(answer, told, bows)
        self.assertIs(type(answer), list)
        self.assertEqual(bows, kept)

    def test_ordinary_lists(self):
        self.check([], [])
        self.check([(0, 1)], [1])
        self.check([(0, 40)], [1])
        self.check([(0, 1), (2, 3)], [1, 1])
        self.check([(0, 3), (1, 2)], [2, 1])
        self.check([(1, 2), (0, 3)], [1, 2])
        self.check([(0, 7), (1, 2), (3, 6), (4, 5)], [3, 1, 2, 1])
        self.check([(3, 6), (8, 9), (4, 5), (0, 7), (1, 2)], [2, 1, 1, 3, 1])

    def test_the_highest_within_counts_not_how_many(self):
        self.check([(0, 9), (1, 2), (3, 4), (5, 6), (7, 8)], [2, 1, 1, 1, 1])
        self.check([(0, 9), (1, 2), (3, 8), (4, 7), (5, 6)], [4, 1, 3, 2, 1])

    def test_a_long_bow_may_lie_low(self):
        self.check([(0, 30), (31, 40), (32, 39), (33, 34)], [1, 3, 2, 1])

    def test_the_words_of_the_document(self):
        for word in SHORT_WORDS:
            for bows in disorders(pairs(word)):
                self.check(bows, [plain_height(bow, bows) for bow in bows])

    def test_every_order(self):
        for bows in itertools.permutations([(0, 11), (1, 4), (2, 3), (5, 6), (7, 10)]):
            told = {0: 3, 1: 2, 2: 1, 5: 1, 7: 1}
            self.check(list(bows), [told[a] for a, b in bows])

    def test_numbers_left_out_between(self):
        numbers = [1, 2, 6, 13, 14, 22, 23, 24, 33, 40]
        for word in words_of_length(10):
            for bows in disorders(pairs(word)):
                self.check(spread(bows, numbers), [plain_height(bow, bows) for bow in bows])

    def test_twenty_bows(self):
        self.check([(a, 40 - a) for a in range(20)], list(range(20, 0, -1)))
        for word in LONG_WORDS:
            told = heights_of_word(word)
            for bows in disorders(pairs(word)):
                self.check(bows, [told[a] for a, b in bows])

    def test_a_list_told_is_a_new_one(self):
        bows = [(1, 2), (0, 3)]
        first = heights(bows)
        second = heights(bows)
        self.assertIsNot(first, second)
        first[0] = 9
        first.append(5)
        self.assertEqual(second, [1, 2])
        self.assertEqual(heights(bows), [1, 2])

    def test_what_is_done_to_the_list_later_changes_no_answer(self):
        bows = [(1, 2), (0, 3)]
        told = heights(bows)
        bows.append((4, 5))
        bows.reverse()
        self.assertEqual(told, [1, 2])
        self.assertEqual(heights(bows), [1, 2, 1])


if __name__ == "__main__":
    unittest.main()
