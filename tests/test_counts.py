"""Points 30 to 32: completions, counts, lists and numbers."""

import copy
import functools
import itertools
import time
import unittest

from samples import (LONG_CROSSED, LONG_DRAWABLE, NO_MAZES, NO_NUMBERS, NO_SIDES, SHORT_CROSSED, SIXTY_FIGURES, THINGS, UP,
                     UP_TO_SEVEN, mazes_of, plain_code, plain_crossings, plain_fault, plain_reached, plain_step)
from ringmaze.codes import coded, decoded
from ringmaze.counts import completions, count, listed, number_of, numbered
from ringmaze.errors import Crossed, NoMaze, NoNumber
from ringmaze.states import step

COUNTS = [1, 1, 1, 2, 3, 8, 14, 42, 81, 262, 538, 1828, 3926, 13820, 30694, 110954, 252939, 933458, 2172830, 8152860,
          19304190]
NO_RINGS = NO_NUMBERS + [-1, -2, -20, 21, 22, 100, SIXTY_FIGURES, -SIXTY_FIGURES]
# An order is drawable from both sides or from none.
EIGHT_RINGS = [order for side, order in mazes_of(8) if side == "l" and not plain_crossings(("l", order))]
TWENTY = [maze for maze in LONG_DRAWABLE if len(maze[1]) == 20]
WIDE = ["*|", "|*", "(|)*", "*()(|)", "(((|)))*", "*(()((|())))", "(())*()|", "*((((((((|))))))))"]


def drawable_of(side, rings):
    """The drawable mazes of so many rings, in the order of their codes, by a plain look at all orders."""
    if rings == 8:
        found = [(side, order) for order in EIGHT_RINGS]
    else:
        found = [maze for maze in UP_TO_SEVEN if maze[0] == side and len(maze[1]) == rings]
    return sorted(found, key=plain_code)


@functools.cache
def texts_that_end(pieces, rows):
    """How many texts of so many letters there are that can be, and lead to one bow that goes on."""
    if rows == 0:
        return 1 if len(pieces[0] + pieces[1]) == 1 else 0
    reached = [plain_step(pieces, letter) for letter in "abcd"]
    return sum(texts_that_end(ahead, rows - 1) for ahead in reached if ahead is not None)


def rests(side, begin, length):
    """All texts of so many letters that make a code with those ahead, by the alphabet."""
    texts = ["".join(letters) for letters in itertools.product("abcd", repeat=length)]
    return [text for text in texts if plain_fault(side, begin + text) is None]


class CompletionsTest(unittest.TestCase):
    def test_ordinary_states(self):
        self.assertEqual([completions("*|", rows) for rows in range(6)], [1, 1, 1, 2, 3, 8])
        self.assertEqual([completions("|*", rows) for rows in range(6)], [1, 1, 1, 2, 3, 8])
        # From `(|)*` only b, c and then d come to one sign in two rows.
        self.assertEqual([completions("(|)*", rows) for rows in range(3)], [0, 0, 1])
        self.assertEqual([completions("()|*", rows) for rows in range(2)], [0, 1])

    def test_all_texts_of_up_to_six_letters(self):
        for side in "lr":
            for state, pieces in plain_reached(side, 4).items():
                for rows in range(7):
                    texts = itertools.product("abcd", repeat=rows)
                    expected = sum(1 for text in texts if self.ends(pieces, text))
                    self.assertEqual(completions(state, rows), expected, (state, rows))

    def ends(self, pieces, text):
        for letter in text:
            pieces = plain_step(pieces, letter)
            if pieces is None:
                return False
        return len(pieces[0] + pieces[1]) == 1

    def test_all_states_of_up_to_eight_rows(self):
        for side in "lr":
            for state, pieces in plain_reached(side, 8).items():
                for rows in range(7):
                    self.assertEqual(completions(state, rows), texts_that_end(pieces, rows), (state, rows))

    def test_up_to_twenty_rows_against_the_next_states(self):
        told = plain_reached("l", 8) | plain_reached("r", 8)
        self.assertEqual([state for state in WIDE if state not in told], [])
        for state in WIDE:
            reached = [step(state, letter) for letter in "abcd"]
            for rows in range(1, 21):
                expected = sum(completions(ahead, rows - 1) for ahead in reached if ahead is not None)
                self.assertEqual(completions(state, rows), expected, (state, rows))
                self.assertGreaterEqual(expected, 1 if rows == 20 else 0)

    def test_too_few_rows_for_so_many_signs(self):
        self.assertEqual(completions("*" + "(" * 20 + "|" + ")" * 20, 19), 0)
        self.assertEqual(completions("*" + "(" * 20 + "|" + ")" * 20, 20), 0)
        self.assertEqual(completions("*()()()|", 2), 0)
        self.assertEqual(completions("()()()|*", 3), 0)
        self.assertEqual(completions("()()()|*", 5), texts_that_end(plain_reached("r", 6)["()()()|*"], 5))


class CountTest(unittest.TestCase):
    def test_what_the_document_tells(self):
        self.assertEqual([count(n) for n in range(6)], [1, 1, 1, 2, 3, 8])

    def test_against_all_orders(self):
        for rings in range(9):
            self.assertEqual(count(rings), len(drawable_of("l", rings)))

    def test_up_to_twenty(self):
        self.assertEqual([count(n) for n in range(21)], COUNTS)

    def test_twenty_rings_in_seconds(self):
        begin = time.perf_counter()
        self.assertEqual(count(20), 19304190)
        self.assertLess(time.perf_counter() - begin, 20)

    def test_what_is_no_number_of_rings(self):
        for thing in NO_RINGS:
            with self.subTest(thing=thing):
                self.assertRaises(NoNumber, count, thing)


class ListedTest(unittest.TestCase):
    def test_ordinary_lists(self):
        self.assertEqual(listed("l", 0), [("l", ())])
        self.assertEqual(listed("r", 0), [("r", ())])
        self.assertEqual(listed("l", 1), [("l", (1,))])
        self.assertEqual(listed("r", 2), [("r", (1, 2))])
        self.assertEqual(listed("l", 3), [("l", (3, 2, 1)), ("l", (1, 2, 3))])
        self.assertEqual(listed("r", 3), [("r", (3, 2, 1)), ("r", (1, 2, 3))])

    def test_each_drawable_one_once_in_the_order_of_the_codes(self):
        for side, rings in itertools.product("lr", range(9)):
            told = listed(side, rings)
            self.assertIs(type(told), list)
            self.assertEqual(told, drawable_of(side, rings))
            self.assertEqual(len(told), count(rings))
            codes = [coded(maze) for maze in told]
            self.assertTrue(all(one < two for one, two in zip(codes, codes[1:])))

    def test_nine_rings(self):
        for side in "lr":
            told = listed(side, 9)
            self.assertEqual(len(told), 262)
            codes = [plain_code(maze) for maze in told]
            self.assertTrue(all(one < two for one, two in zip(codes, codes[1:])))
            for maze in told:
                self.assertEqual((maze[0], sorted(maze[1])), (side, list(range(1, 10))))
                self.assertEqual(plain_crossings(maze), [])

    def test_a_list_told_is_the_askers_own(self):
        for side, rings in itertools.product("lr", range(8)):
            kept = drawable_of(side, rings)
            told = listed(side, rings)
            self.assertIsNot(listed(side, rings), told)
            told.reverse()
            told.append(None)
            told[0] = "gone"
            self.assertEqual(listed(side, rings), kept)
            self.assertEqual(count(rings), len(kept))
            self.assertEqual(numbered(side, rings, 0), kept[0])
            self.assertEqual([number_of(maze) for maze in kept], list(range(len(kept))))
            self.assertEqual(told[0], "gone")


class NumberTest(unittest.TestCase):
    def test_ordinary_mazes(self):
        self.assertEqual(number_of(("l", ())), 0)
        self.assertEqual(number_of(("r", (1,))), 0)
        self.assertEqual(number_of(("l", (3, 2, 1))), 0)
        self.assertEqual(number_of(("l", (1, 2, 3))), 1)
        self.assertEqual(numbered("l", 3, 0), ("l", (3, 2, 1)))
        self.assertEqual(numbered("r", 3, 1), ("r", (1, 2, 3)))
        self.assertEqual(numbered("r", 0, 0), ("r", ()))

    def test_all_of_up_to_nine_rings(self):
        for side, rings in itertools.product("lr", range(10)):
            mazes = drawable_of(side, rings) if rings < 9 else listed(side, rings)
            for number, maze in enumerate(mazes):
                self.assertEqual(number_of(maze), number)
                told = numbered(side, rings, number)
                self.assertEqual(told, maze)
                self.assertEqual((type(told), type(told[1])), (tuple, tuple))

    def test_from_nothing_to_the_count_of_twenty_rings(self):
        for side in "lr":
            last = numbered(side, 20, COUNTS[20] - 1)
            self.assertEqual(last, (side, UP))
            self.assertEqual(number_of(last), COUNTS[20] - 1)
            self.assertEqual(number_of(numbered(side, 20, 0)), 0)
            self.assertRaises(NoNumber, numbered, side, 20, COUNTS[20])

    def test_some_of_twenty_rings(self):
        self.assertGreater(len(TWENTY), 5)
        for maze in TWENTY:
            number = number_of(maze)
            self.assertTrue(0 <= number < COUNTS[20])
            self.assertEqual(numbered(maze[0], 20, number), maze)

    def test_numbers_of_twenty_rings_rise_with_the_codes(self):
        for side in "lr":
            numbers = [0, 1, 2, 3, 1000, 1001, 5000000, 12345678, 12345679, 19304188, 19304189]
            codes = []
            for number in numbers:
                maze = numbered(side, 20, number)
                self.assertEqual((maze[0], sorted(maze[1])), (side, list(UP)))
                self.assertEqual(plain_crossings(maze), [])
                self.assertEqual(number_of(maze), number)
                codes.append(plain_code(maze))
            self.assertEqual(codes, sorted(set(codes)))

    def test_codes_that_begin_alike_have_numbers_side_by_side(self):
        for maze in TWENTY[2:5]:
            begin = plain_code(maze)[:13]
            alike = [begin + rest for rest in rests(maze[0], begin, 7)]
            self.assertIn(plain_code(maze), alike)
            self.assertGreater(len(alike), 1)
            first = number_of(decoded(maze[0], alike[0]))
            for k in list(range(len(alike)))[:4] + [len(alike) - 1]:
                self.assertEqual(numbered(maze[0], 20, first + k), decoded(maze[0], alike[k]))
            for number in (first - 1, first + len(alike)):
                self.assertNotEqual(plain_code(numbered(maze[0], 20, number))[:13], begin)

    def test_what_is_no_number(self):
        for side, rings in itertools.product("lr", range(8)):
            for thing in [COUNTS[rings], COUNTS[rings] + 1, -1, -COUNTS[rings], SIXTY_FIGURES, -SIXTY_FIGURES] + NO_NUMBERS:
                with self.subTest(side=side, rings=rings, thing=thing):
                    self.assertRaises(NoNumber, numbered, side, rings, thing)

    def test_what_is_no_number_of_rings(self):
        for side in "lr":
            for thing in NO_RINGS:
                for number in [0, 1, -1, SIXTY_FIGURES, True, None, "0", [0]]:
                    with self.subTest(side=side, thing=thing, number=number):
                        self.assertRaises(NoNumber, numbered, side, thing, number)

    def test_what_is_no_side_is_told_ahead(self):
        for side in NO_SIDES + [thing for thing in THINGS if thing not in ("l", "r")]:
            for rings, number in [(3, 0), (3, 2), (21, 0), (-1, 0), (None, None), ("3", 0), (3, "0"), (True, False)]:
                self.assertRaises(NoMaze, numbered, side, rings, number)

    def test_number_of_what_is_no_maze(self):
        for thing in NO_MAZES:
            with self.subTest(thing=thing):
                self.assertRaises(NoMaze, number_of, thing)

    def test_number_of_what_crosses(self):
        for maze in SHORT_CROSSED + LONG_CROSSED:
            with self.assertRaises(Crossed) as caught:
                number_of(maze)
            self.assertIn(caught.exception.bows, plain_crossings(maze))

    def test_things_handed_in_stay_as_they_were(self):
        for thing in [["l", [3, 2, 1]], ("l", [1]), [3], [[0], (1, [2])]]:
            kept = copy.deepcopy(thing)
            self.assertRaises(NoMaze, number_of, thing)
            self.assertRaises(NoNumber, count, thing)
            self.assertRaises(NoMaze, numbered, thing, thing, thing)
            self.assertRaises(NoNumber, numbered, "l", thing, thing)
            self.assertRaises(NoNumber, numbered, "l", 3, thing)
            self.assertEqual(thing, kept)


if __name__ == "__main__":
    unittest.main()
