"""Points 24 and 25: mazes of odd many rings closed, and pairs of words with one round opened."""

import copy
import unittest

from samples import (DRAWABLE, LONG_CROSSED, LONG_PAIRS, NO_MAZES, NO_PAIRS, SEVEN_RINGS, SHORT_CROSSED, SHORT_PAIRS, UP,
                     UP_TO_SEVEN, plain_bows, plain_crossings, plain_partner, plain_rounds, words_of_length)
from ringmaze.brackets import is_word
from ringmaze.closing import closed, opened
from ringmaze.errors import Crossed, NoMaze, NoRound, NoWord
from ringmaze.mazes import vet
from ringmaze.turning import mirrored

ALL_DRAWABLE = DRAWABLE + SEVEN_RINGS
ODD = [maze for maze in ALL_DRAWABLE if len(maze[1]) % 2 == 1]
EVEN = [maze for maze in ALL_DRAWABLE if len(maze[1]) % 2 == 0]
TEN_ENDS = [(left, right) for left in words_of_length(10) for right in words_of_length(10)]


class ClosedTest(unittest.TestCase):
    def test_ordinary_mazes(self):
        self.assertEqual(closed(("l", (1,))), ("()", "()"))
        self.assertEqual(closed(("r", (1,))), ("()", "()"))
        self.assertEqual(closed(("l", (1, 2, 3))), ("()()", "(())"))
        self.assertEqual(closed(("r", (1, 2, 3))), ("(())", "()()"))
        self.assertEqual(closed(("l", (3, 2, 1))), ("(())", "()()"))
        self.assertEqual(closed(("r", (3, 2, 1))), ("()()", "(())"))
        self.assertEqual(closed(("l", (3, 4, 5, 2, 1))), ("(())()", "()(())"))

    def test_nineteen_rings(self):
        self.assertEqual(closed(("l", UP[:19])), ("()" * 10, "(" + "()" * 9 + ")"))
        self.assertEqual(closed(("r", UP[:19])), ("(" + "()" * 9 + ")", "()" * 10))
        self.assertEqual(closed(("l", UP[18::-1])), ("(" + "()" * 9 + ")", "()" * 10))

    def test_each_bow_of_odd_many_rings(self):
        self.assertEqual({len(order) for side, order in ODD}, {1, 3, 5, 7, 11, 17, 19})
        for maze in ODD:
            told = closed(maze)
            self.assertIs(type(told), tuple)
            self.assertEqual(len(told), 2)
            middle = len(maze[1]) + 1
            for word, bows in zip(told, plain_bows(maze).values()):
                self.assertIs(is_word(word), True)
                self.assertEqual(len(word), middle)
                self.assertEqual(len(bows), middle // 2)
                for a, b in bows:
                    self.assertEqual(plain_partner(word, a), 0 if b == middle else b, maze)

    def test_the_mirrored_maze_has_the_words_changed_for_one_another(self):
        for maze in ODD:
            self.assertEqual(closed(mirrored(maze)), closed(maze)[::-1])

    def test_closed_it_is_one_round(self):
        for maze in ODD:
            self.assertEqual(len(plain_rounds(*closed(maze))), 1, maze)

    def test_even_many_rings(self):
        self.assertEqual({len(order) for side, order in EVEN}, {0, 2, 4, 6, 8, 12, 20})
        for maze in EVEN:
            self.assertRaises(NoRound, closed, maze)

    def test_what_is_no_maze(self):
        for thing in NO_MAZES:
            with self.subTest(thing=thing):
                self.assertRaises(NoMaze, closed, thing)

    def test_crossed_is_told_ahead_of_an_even_number(self):
        for maze in SHORT_CROSSED + LONG_CROSSED:
            with self.assertRaises(Crossed) as caught:
                closed(maze)
            self.assertIn(caught.exception.bows, plain_crossings(maze))

    def test_no_maze_is_told_ahead_of_an_even_number_and_of_what_crosses(self):
        for thing in [("m", ()), ("m", (1, 2)), ("l", [1, 2]), ["l", (2, 1)], ("l", (2, True)), ("l", UP + (22,)),
                      ("l", UP + (22, 21)), ("r", (2, 1), ())]:
            self.assertRaises(NoMaze, closed, thing)

    def test_things_handed_in_stay_as_they_were(self):
        for thing in [["l", [3, 2, 1]], ("l", [1]), [("l", ())], ("l", (1, [2, 1]))]:
            kept = copy.deepcopy(thing)
            self.assertRaises(NoMaze, closed, thing)
            self.assertEqual(thing, kept)


class OpenedTest(unittest.TestCase):
    def check(self, left, right):
        """How many rounds there are, and whether what is told is right for so many."""
        many = len(plain_rounds(left, right))
        if many != 1:
            self.assertRaises(NoRound, opened, left, right)
        else:
            maze = opened(left, right)
            self.assertIs(vet(maze), True)
            self.assertEqual(maze[0], "l")
            self.assertEqual(len(maze[1]), len(left) - 1)
            self.assertEqual(closed(maze), (left, right))
        return many

    def test_ordinary_words(self):
        self.assertEqual(opened("()", "()"), ("l", (1,)))
        self.assertEqual(opened("()()", "(())"), ("l", (1, 2, 3)))
        self.assertEqual(opened("(())", "()()"), ("l", (3, 2, 1)))
        self.assertEqual(opened("(())()", "()(())"), ("l", (3, 4, 5, 2, 1)))

    def test_the_closed_mazes_come_in_on_the_left(self):
        for side, order in ODD:
            if side == "l":
                self.assertEqual(opened(*closed((side, order))), (side, order))
            else:
                # From the middle, put upon the outside, the same round goes by a left bow: the way backwards.
                self.assertEqual(opened(*closed((side, order))), ("l", order[::-1]))
                self.assertEqual(opened(*closed((side, order))[::-1]), ("l", order))

    def test_each_pair_of_up_to_ten_ends(self):
        found = [self.check(left, right) for left, right in SHORT_PAIRS + TEN_ENDS]
        self.assertEqual(set(found), set(range(6)))

    def test_the_pairs_with_one_round_are_just_the_closed_mazes(self):
        for rings in (1, 3, 5, 7):
            words = words_of_length(rings + 1)
            single = [(left, right) for left in words for right in words if len(plain_rounds(left, right)) == 1]
            told = [closed((side, order)) for side, order in UP_TO_SEVEN
                    if side == "l" and len(order) == rings]
            self.assertEqual(sorted(told), sorted(single))

    def test_no_ends(self):
        self.assertRaises(NoRound, opened, "", "")

    def test_twenty_ends(self):
        for left, right in [("()" * 10, "(" + "()" * 9 + ")"), ("(" + "()" * 9 + ")", "()" * 10)]:
            self.assertEqual(self.check(left, right), 1)
        self.assertEqual(opened("()" * 10, "(" + "()" * 9 + ")"), ("l", UP[:19]))
        self.assertRaises(NoRound, opened, "()" * 10, "()" * 10)

    def test_more_than_twenty_ends(self):
        for half in range(11, 21):
            row, shifted = "()" * half, "(" + "()" * (half - 1) + ")"
            self.assertEqual(len(plain_rounds(row, shifted)), 1)
            self.assertRaises(NoRound, opened, row, shifted)
            self.assertRaises(NoRound, opened, shifted, row)
            self.assertRaises(NoRound, opened, row, row)
        for left, right in LONG_PAIRS:
            self.assertRaises(NoRound, opened, left, right)

    def test_what_are_no_two_words_of_the_same_length(self):
        for left, right in NO_PAIRS:
            with self.subTest(left=left, right=right):
                self.assertRaises(NoWord, opened, left, right)

    def test_no_word_is_told_ahead_of_no_round(self):
        for left, right in [("", "()"), ("()()", "()"), ("()" * 11, "()" * 12), ("()" * 21, "()" * 21), ("", None),
                            ("()" * 11, "()" * 10 + "((")]:
            self.assertRaises(NoWord, opened, left, right)

    def test_things_handed_in_stay_as_they_were(self):
        for thing in [["(", ")"], [["()"]], ([1], [0])]:
            kept = copy.deepcopy(thing)
            self.assertRaises(NoWord, opened, thing, "()")
            self.assertRaises(NoWord, opened, "()", thing)
            self.assertEqual(thing, kept)


if __name__ == "__main__":
    unittest.main()
