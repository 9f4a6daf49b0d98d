"""Points 2 and 4: whole numbers, sides, orders, mazes."""

import itertools
import unittest

from samples import NO_MAZES, NO_ORDERS, NO_SIDES, SIXTY_FIGURES, THINGS, UP
from ringmaze.words import is_maze, is_order, is_side, is_whole

QUESTIONS = [is_whole, is_side, is_order, is_maze]
NO_WHOLES = [True, False, None, "", "1", "l", [], [1], (), (1,), [[1]], ((1,),), ("l", (1,))]
WHOLES = [0, 1, -1, 20, 21, SIXTY_FIGURES, -SIXTY_FIGURES, 10 ** 59]
ORDERS = [(), (1,), (1, 2), (2, 1), (3, 2, 1), (3, 1, 2), UP, UP[::-1], UP[7:] + UP[:7]]


class WordsTest(unittest.TestCase):
    def check_all(self, question, things, answer):
        for thing in things:
            with self.subTest(question=question.__name__, thing=thing):
                self.assertIs(question(thing), answer)

    def test_whole_numbers(self):
        self.check_all(is_whole, WHOLES, True)
        self.check_all(is_whole, NO_WHOLES, False)

    def test_sides(self):
        self.check_all(is_side, ["l", "r"], True)
        self.check_all(is_side, NO_SIDES, False)

    def test_orders(self):
        self.check_all(is_order, ORDERS, True)
        self.check_all(is_order, NO_ORDERS, False)

    def test_each_short_tuple(self):
        for length in range(5):
            orders = set(itertools.permutations(range(1, length + 1)))
            for thing in itertools.product(range(-1, 7), repeat=length):
                self.assertIs(is_order(thing), thing in orders, thing)

    def test_each_length(self):
        for length in range(26):
            self.assertIs(is_order(tuple(range(1, length + 1))), length <= 20, length)
            self.assertIs(is_order(tuple(range(length, 0, -1))), length <= 20, length)
            self.assertIs(is_maze(("r", tuple(range(length, 0, -1)))), length <= 20, length)

    def test_each_place_of_an_order_put_wrong(self):
        for place in range(20):
            for wrong in [0, 21, -1, True, None, "1", str(place + 1), (place + 1,), [place + 1], SIXTY_FIGURES]:
                thing = UP[:place] + (wrong,) + UP[place + 1:]
                self.assertIs(is_order(thing), False, thing)
                self.assertIs(is_maze(("l", thing)), False, thing)

    def test_mazes(self):
        self.check_all(is_maze, [(side, order) for side in "lr" for order in ORDERS], True)

    def test_mazes_are_told_whether_drawable_or_not(self):
        self.check_all(is_maze, [("l", order) for order in itertools.permutations(range(1, 6))], True)

    def test_what_is_no_maze(self):
        self.check_all(is_maze, NO_MAZES, False)

    def test_each_question_of_any_thing(self):
        told = {"is_whole": 0, "is_side": 0, "is_order": 0, "is_maze": 0}
        for thing in THINGS:
            answers = [question(thing) for question in QUESTIONS]
            self.assertLessEqual(sum(answers), 1, thing)
            for question, answer in zip(QUESTIONS, answers):
                self.assertIsInstance(answer, bool)
                told[question.__name__] += answer
        self.assertEqual(told, {"is_whole": 9, "is_side": 2, "is_order": 3, "is_maze": 2})

    def test_lists_asked_of_stay_as_they_were(self):
        for question in QUESTIONS:
            inner = [2, 1]
            thing = [inner, "l"]
            question(thing)
            question(inner)
            self.assertEqual((thing, inner), ([[2, 1], "l"], [2, 1]))


if __name__ == "__main__":
    unittest.main()
