"""Points 26 and 29: mazes written by letters, and read again."""

import copy
import itertools
import unittest

from samples import (LONG_CROSSED, LONG_DRAWABLE, NO_MAZES, NO_SIDES, SHORT_CROSSED, SHORT_DRAWABLE, THINGS, UP,
                     UP_TO_SEVEN, plain_code, plain_crossings, plain_fault)
from ringmaze.codes import coded, decoded
from ringmaze.errors import Crossed, NoCode, NoMaze

TEXTS = ["".join(letters) for length in range(7) for letters in itertools.product("abcd", repeat=length)]
# All signs of a text that may be handed in, but the letters of codes.
NO_LETTERS = [chr(code) for code in range(32, 127) if chr(code) not in "abcd%"] + ["\n"]
LONG_CODES = [(maze[0], plain_code(maze)) for maze in LONG_DRAWABLE]
# Texts that can be up to some place, for either side.
BEGINS = ["", "a", "aa", "aab", "abac", "aaaaabab", "a" * 10 + "bc" * 4, "a" * 19]


class CodesTest(unittest.TestCase):
    def check_refused(self, side, code, at):
        with self.assertRaises(NoCode, msg=(side, code)) as caught:
            decoded(side, code)
        self.assertIs(type(caught.exception.at), int)
        self.assertEqual(caught.exception.at, at, (side, code))

    def check_code(self, maze, code):
        self.assertEqual(coded(maze), code)
        told = decoded(maze[0], code)
        self.assertEqual(told, maze)
        self.assertEqual((type(told), type(told[1])), (tuple, tuple))

    def test_ordinary_mazes(self):
        for maze, code in [
            (("l", ()), ""), (("r", ()), ""), (("l", (1,)), "c"), (("r", (1,)), "b"),
            (("l", (1, 2)), "cb"), (("r", (1, 2)), "bc"), (("l", (1, 2, 3)), "cbc"), (("l", (3, 2, 1)), "acd"),
            (("r", (3, 2, 1)), "abd"), (("l", (3, 2, 1, 4)), "acdb"), (("l", (1, 4, 3, 2)), "cabd"),
            (("l", (3, 4, 5, 2, 1)), "accbd"),
        ]:
            self.check_code(maze, code)

    def test_each_letter(self):
        # Ring 1 of these has its left and its right bow inwards or outwards as the letter tells.
        self.assertEqual(coded(("l", (3, 2, 1)))[0], "a")
        self.assertEqual(coded(("r", (1, 2, 3)))[0], "b")
        self.assertEqual(coded(("l", (1, 2, 3)))[0], "c")
        self.assertEqual(coded(("l", (3, 2, 1)))[2], "d")

    def test_all_drawable_mazes_of_up_to_seven_rings(self):
        for maze in UP_TO_SEVEN:
            self.check_code(maze, plain_code(maze))

    def test_all_texts_of_up_to_six_letters(self):
        codes = {(maze[0], plain_code(maze)): maze for maze in SHORT_DRAWABLE}
        self.assertEqual(len(codes), len(SHORT_DRAWABLE))
        found = []
        for side, text in itertools.product("lr", TEXTS):
            at = plain_fault(side, text)
            self.assertEqual(at is None, (side, text) in codes)
            if at is None:
                self.assertEqual(decoded(side, text), codes[side, text])
                self.assertEqual(coded(codes[side, text]), text)
            else:
                self.check_refused(side, text, at)
            found.append(at)
        self.assertEqual(set(found), {None, 0, 1, 2, 3, 4, 5, 6})

    def test_nineteen_and_twenty_letters(self):
        self.assertLessEqual({19, 20}, {len(code) for side, code in LONG_CODES})
        for maze in LONG_DRAWABLE:
            self.check_code(maze, plain_code(maze))
        self.check_code(("l", UP), "cb" * 10)
        self.check_code(("r", UP), "bc" * 10)
        self.check_code(("r", UP[:19]), "bc" * 9 + "b")

    def test_a_sign_that_is_no_letter_at_any_place(self):
        for side, code in [("l", ""), ("r", "b"), ("l", "acd"), ("r", "abdcb")] + LONG_CODES:
            for place in range(len(code)):
                for sign in NO_LETTERS:
                    self.check_refused(side, code[:place] + sign + code[place + 1:], place)
            if len(code) < 20:
                for sign in NO_LETTERS:
                    self.check_refused(side, code + sign, len(code))

    def test_a_letter_that_can_not_be_at_any_place(self):
        for side, begin in itertools.product("lr", BEGINS):
            self.assertEqual(plain_fault(side, begin) in (None, len(begin)), True)
            for letter in "abcd":
                if plain_fault(side, begin + letter) == len(begin):
                    for rest in ["", "a", "x", "abcd"]:
                        if len(begin + letter + rest) <= 20:
                            self.check_refused(side, begin + letter + rest, len(begin))

    def test_the_first_fault_is_told(self):
        self.check_refused("l", "dx", 0)
        self.check_refused("l", "xd", 0)
        self.check_refused("l", "axd", 1)
        self.check_refused("l", "adx", 1)
        self.check_refused("l", "cdx", 1)
        self.check_refused("l", "cbbx", 2)
        self.check_refused("l", "cbxb", 2)
        self.check_refused("r", "A", 0)
        self.check_refused("l", "cB", 1)

    def test_the_length_where_a_letter_lacks(self):
        for side, code in LONG_CODES:
            for length in range(len(code)):
                if plain_fault(side, code[:length]) is not None:
                    self.check_refused(side, code[:length], length)
        for length in range(1, 21):
            self.check_refused("l", "a" * length, length)
            self.check_refused("r", "a" * length, length)
        self.check_refused("l", "ab", 2)

    def test_more_than_twenty_signs(self):
        for text in ["cb" * 10 + "c", "cb" * 11, "bc" * 10 + "b", "a" * 21, "a" * 3000, "c" + "x" * 20, "cbx" + "a" * 18,
                     " " * 21, "cb" * 10 + " ", "cb" * 10 + "\n", "\n" * 21, "cb" * 10 + "d"]:
            for side in "lr":
                self.check_refused(side, text, 0)

    def test_what_is_no_text(self):
        for thing in THINGS + [["c"], ("c",), ["c", "b"], [[["c"]]], ("c", None)]:
            if type(thing) is not str:
                with self.subTest(thing=thing):
                    self.check_refused("l", thing, 0)
                    self.check_refused("r", thing, 0)

    def test_what_is_no_side_ahead_of_what_is_no_code(self):
        for side in NO_SIDES + [thing for thing in THINGS if thing not in ("l", "r")]:
            for code in ["", "c", "b", "d", "x", "a", "a" * 21, None, 0, True, [], ["c"], ()]:
                with self.subTest(side=side, code=code):
                    self.assertRaises(NoMaze, decoded, side, code)

    def test_what_is_no_maze(self):
        for thing in NO_MAZES:
            with self.subTest(thing=thing):
                self.assertRaises(NoMaze, coded, thing)

    def test_what_crosses(self):
        for maze in SHORT_CROSSED + LONG_CROSSED:
            with self.assertRaises(Crossed) as caught:
                coded(maze)
            self.assertIn(caught.exception.bows, plain_crossings(maze))

    def test_things_handed_in_stay_as_they_were(self):
        for thing in [["l", [3, 2, 1]], ("l", [1]), [("l", ())], ["c"], [["a"], ("b", [])]]:
            kept = copy.deepcopy(thing)
            self.assertRaises(NoMaze, coded, thing)
            self.assertRaises(NoMaze, decoded, thing, thing)
            self.assertRaises(NoCode, decoded, "l", thing)
            self.assertEqual(thing, kept)


if __name__ == "__main__":
    unittest.main()
