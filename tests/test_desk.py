"""Point 33: the desk and its rows."""

import copy
import itertools
import unittest

from samples import (DRAWABLE, LONG_CROSSED, LONG_DRAWABLE, SHORT_CROSSED, SHORT_DRAWABLE, THINGS, UP, other,
                     plain_crossings)
from ringmaze.codes import coded, decoded
from ringmaze.counts import count, number_of, numbered
from ringmaze.desk import Desk
from ringmaze.drawing import drawn
from ringmaze.errors import Crossed, NoCode, NoMaze, NoName, NoNumber, NoRow
from ringmaze.nesting import apart, within
from ringmaze.turning import inside_out, mirrored

# By these names a desk of these tests keeps mazes; by the others it keeps none.
KEPT = {"a": "l 3 2 1", "b": "r", "abcdefgh": "l 1 2 3 4", "twenty": "l " + " ".join(map(str, UP))}
FREE = ["x", "z", "ab", "zz", "maze", "abcdefg", "twent"]
NO_NAMES = ["", "A", "Ab", "aB", "abcdefghi", "a" * 9, "a" * 1000, "1", "a1", "a_b", "a-b", "a.", "a\n", "\na", "a\nb", "*",
            "0", "{", "`"]
NO_FIGURES = ["", "01", "00", "007", "-1", "-0", "+1", "+0", "1.0", "1_0", "0x1", "1e1", "a", "one", "1\n", "\n1", "1\n2", ",",
              "1,", "9" * 61, "1" + "0" * 60, "0" * 60, "0" + "1" * 59, "9" * 1000, "/", ":"]
NO_SIDE_WORDS = ["", "L", "R", "lr", "ll", "left", "0", "m", "l\n", "|"]


def shown(maze):
    """What `show` answers of a maze."""
    return " ".join([maze[0], *map(str, maze[1])])


def desk_with(mazes):
    """A desk that keeps mazes by names, told as `show` tells them."""
    desk = Desk()
    for name, maze in mazes.items():
        assert desk.say(f"maze {name} {maze}") == "ok"
    return desk


class RowsTest(unittest.TestCase):
    def setUp(self):
        self.desk = desk_with(KEPT)

    def check(self, row, answer):
        told = self.desk.say(row)
        self.assertIs(type(told), str)
        self.assertEqual(told, answer, row)

    def test_ordinary_rows(self):
        self.check("show a", "l 3 2 1")
        self.check("code a", "acd")
        self.check("number a", "0")
        self.check("apart a", "1 3")
        self.check("mirror x a", "ok")
        self.check("show x", "r 3 2 1")
        self.check("same a x", "no")
        self.check("mirror x x", "ok")
        self.check("same a x", "yes")
        self.check("within y a abcdefgh", "ok")
        self.check("show y", "l 3 2 1 4 5 6 7")
        self.check("apart y", "5 3 1 1 1 1")
        self.check("maze z l 3 2 1 4", "ok")
        self.check("apart z", "2 3 1")
        self.check("turn z z", "ok")
        self.check("show z", "l 1 4 3 2")
        self.check("pick p r 3 1", "ok")
        self.check("show p", "r 1 2 3")
        self.check("code c l cbc", "ok")
        self.check("show c", "l 1 2 3")
        self.check("number c", "1")
        self.check("count 5", "8")
        self.check("maze one l 1", "ok")
        self.check("draw one", "#####\n#v###\n#.###\n#...#\n###.#\n###@#\n#####")

    def test_a_maze_without_rings(self):
        for side in "lr":
            self.check(f"maze o {side}", "ok")
            self.check("show o", side)
            self.check("draw o", drawn((side, ())))
            self.check("code o", "")
            self.check("number o", "0")
            self.check("apart o", "0")
            self.check("turn t o", "ok")
            self.check("show t", side)
            self.check("mirror m o", "ok")
            self.check("show m", other(side))
            self.check("same o m", "no")
            self.check("same o t", "yes")
            self.check("within w o o", "ok")
            self.check("show w", side)
            self.check("within w o a", "ok")
            self.check("show w", f"{side} 3 2 1")

    def test_what_the_functions_tell_of_each_maze(self):
        for maze in DRAWABLE:
            self.check(f"maze it {shown(maze)}", "ok")
            self.check("show it", shown(maze))
            self.check("draw it", drawn(maze))
            self.check("code it", coded(maze))
            parts = apart(maze)
            self.check("apart it", " ".join(map(str, [len(parts)] + [len(order) for side, order in parts])))
            self.check("mirror that it", "ok")
            self.check("show that", shown(mirrored(maze)))
            self.check("turn that it", "ok")
            self.check("show that", shown(inside_out(maze)))
            self.check(f"code that {maze[0]} {coded(maze)}", "ok")
            self.check("show that", shown(maze))
            self.check("same it that", "yes")
            self.check("same it it", "yes")

    def test_numbers_and_picks(self):
        for maze in SHORT_DRAWABLE + LONG_DRAWABLE[:3] + LONG_DRAWABLE[-2:]:
            self.check(f"maze it {shown(maze)}", "ok")
            self.check("number it", str(number_of(maze)))
            self.check(f"pick that {maze[0]} {len(maze[1])} {number_of(maze)}", "ok")
            self.check("same it that", "yes")
        for rings in range(21):
            self.check(f"count {rings}", str(count(rings)))
        self.check("pick x r 20 12345678", "ok")
        self.check("show x", shown(numbered("r", 20, 12345678)))

    def test_within_and_same_of_all_pairs_of_up_to_four_rings(self):
        mazes = [maze for maze in SHORT_DRAWABLE if len(maze[1]) <= 4]
        for one, two in itertools.product(mazes, repeat=2):
            self.check(f"maze one {shown(one)}", "ok")
            self.check(f"maze two {shown(two)}", "ok")
            self.check("same one two", "yes" if one == two else "no")
            self.check("within both one two", "ok")
            self.check("show both", shown(within(one, two)))
            self.check("show one", shown(one))
            self.check("show two", shown(two))

    def test_twenty_rings_within_one_another(self):
        self.check("within x twenty b", "ok")
        self.check("same x twenty", "yes")
        self.check("maze s l " + " ".join(map(str, UP[:17])), "ok")
        self.check("within x s a", "ok")
        self.check("show x", shown(within(("l", UP[:17]), ("l", (3, 2, 1)))))

    def test_the_new_name_may_be_the_old_one(self):
        self.check("mirror a a", "ok")
        self.check("show a", "r 3 2 1")
        self.check("maze a l 3 2 1 4", "ok")
        self.check("turn a a", "ok")
        self.check("show a", "l 1 4 3 2")
        self.check("within a a a", "ok")
        self.check("show a", "l 1 4 3 2 5 8 7 6")
        self.check("within b a b", "ok")
        self.check("same b a", "yes")
        self.check("within a abcdefgh a", "ok")
        self.check("show a", "l 1 2 3 4 5 8 7 6 9 12 11 10")
        self.check("show abcdefgh", KEPT["abcdefgh"])

    def test_a_name_is_given_anew(self):
        for row, maze in [("maze a r 1", "r 1"), ("code a l cb", "l 1 2"), ("pick a l 3 0", "l 3 2 1"), ("maze a r", "r")]:
            self.check(row, "ok")
            self.check("show a", maze)

    def test_what_is_made_stays_when_its_source_changes(self):
        self.check("mirror x a", "ok")
        self.check("maze a l 1", "ok")
        self.check("show x", "r 3 2 1")

    def test_names(self):
        for name in ["a", "z", "m", "abcdefgh", "zzzzzzzz", "maze", "code", "show", "l", "r", "ok", "within"]:
            self.check(f"maze {name} r 1 2", "ok")
            self.check(f"show {name}", "r 1 2")
            self.check(f"code {name}", "bc")
            self.check(f"mirror {name} {name}", "ok")
            self.check(f"show {name}", "l 1 2")

    def test_names_of_more_letters_do_not_stand_for_one_another(self):
        self.check("maze abcdefg r 1", "ok")
        self.check("show abcdefgh", KEPT["abcdefgh"])
        self.check("show abcdefg", "r 1")

    def test_code_with_the_word_without_signs(self):
        for side in "lr":
            self.check(f"code x {side} ", "ok")
            self.check("show x", side)
            self.check("code x", "")

    def test_code_with_one_and_with_three_words(self):
        self.check("code a", "acd")
        self.check("code a r bcb", "ok")
        self.check("code a", "bcb")
        self.check("code x l " + "cb" * 10, "ok")
        self.check("show x", KEPT["twenty"])

    def test_two_desks_know_nothing_of_one_another(self):
        one, two = Desk(), Desk()
        self.assertEqual(one.say("maze a l 1"), "ok")
        self.assertRaises(NoName, two.say, "show a")
        self.assertEqual(two.say("maze a r 1 2"), "ok")
        self.assertEqual(two.say("maze b r"), "ok")
        self.assertEqual(one.say("show a"), "l 1")
        self.assertEqual(two.say("show a"), "r 1 2")
        self.assertRaises(NoName, one.say, "show b")
        self.assertRaises(NoName, Desk().say, "show a")
        self.assertRaises(NoName, Desk().say, "same a a")


class RefusalsTest(unittest.TestCase):
    def setUp(self):
        self.desk = desk_with(KEPT)

    def check_kept(self, row):
        for name, maze in KEPT.items():
            self.assertEqual(self.desk.say(f"show {name}"), maze, row)
        for name in FREE:
            self.assertRaises(NoName, self.desk.say, f"show {name}")

    def check(self, row, kind):
        """That the row is refused with just this kind, and changes nothing; the refusal."""
        with self.assertRaises(kind, msg=repr(row)) as caught:
            self.desk.say(row)
        self.assertIs(type(caught.exception), kind, row)
        self.check_kept(row)
        return caught.exception

    def check_all(self, rows, kind):
        for row in rows:
            with self.subTest(row=row):
                self.check(row, kind)

    def test_what_is_no_text(self):
        self.check_all([thing for thing in THINGS if type(thing) is not str], NoRow)
        self.check_all([["show a"], ["show", "a"], ("show", "a"), ("show a",), [["show", "a"]]], NoRow)

    def test_a_first_word_that_is_none(self):
        self.check_all([thing for thing in THINGS if type(thing) is str], NoRow)
        for rest in ["", " a", " a b", " a b a", " x l 1 0", " 5"]:
            for word in ["", "Show", "SHOW", "shows", "sho", "ok", "a", "kept", "read", "list", "maze\n", "\nshow", "5", "l"]:
                self.check(word + rest, NoRow)

    def test_too_few_words(self):
        self.check_all(["maze", "maze x", "maze a", "code", "code a l", "code x l", "pick", "pick x", "pick x l", "pick x l 3",
                        "show", "draw", "number", "mirror", "mirror x", "mirror a", "turn", "turn x", "within", "within x",
                        "within x a", "apart", "same", "same a", "count"], NoRow)

    def test_too_many_words(self):
        self.check_all(["code a l acd b", "code x l c b", "code x l c b a", "pick x l 3 0 0", "pick x l 3 0 ", "show a b",
                        "show a a", "draw a b", "number a 0", "mirror x a b", "turn x a b", "within x a b a", "apart a 1",
                        "same a b a", "count 5 5", "show a l 1"], NoRow)

    def test_two_blanks_and_a_blank_at_either_end(self):
        self.check_all([" show a", "show  a", "show a ", " ", "  ", " maze x l 1", "maze x l  1", "maze x l 1 ",
                        "maze x l 1  2", "code  a", "code a ", "code x l c ", "code x l  c", " code a", "count  5", "count 5 ",
                        " count 5", "count ", "pick x l 3  0", "pick x l  0", "pick x l 3 ", "mirror  x a", "mirror x  a",
                        "mirror x a ", "turn x a ", "within x a  b", "within x a b ", "same a  b", "same a b ", "apart a ",
                        "number a ", "draw  a", "maze x l ", "show\na", "show a  "], NoRow)
        # Here the word without signs stands where a name ought to be, and no other word lacks.
        self.check_all(["show ", "draw ", "code ", "number ", "apart ", "maze  l", "maze  l 1", "mirror x ", "mirror  a",
                        "same a ", "same  a", "within x a ", "within x  a", "within  a b", "code  l c", "pick  l 3 0"], NoName)
        # And here where a side ought to be.
        self.check_all(["maze x ", "maze x  1", "code x  c", "code x  ", "pick x  3 0"], NoMaze)

    def test_what_is_no_name(self):
        for word in NO_NAMES:
            self.check_all([f"maze {word} l 1", f"maze {word} l", f"code {word} l c", f"pick {word} l 3 0", f"mirror {word} a",
                            f"turn {word} a", f"within {word} a b", f"show {word}", f"draw {word}", f"code {word}",
                            f"number {word}", f"apart {word}", f"mirror x {word}", f"turn x {word}", f"within x {word} a",
                            f"within x a {word}", f"same {word} a", f"same a {word}", f"same {word} {word}"], NoName)

    def test_a_name_by_which_no_maze_stands(self):
        for word in FREE:
            self.check_all([f"show {word}", f"draw {word}", f"code {word}", f"number {word}", f"apart {word}",
                            f"mirror x {word}", f"mirror {word} {word}", f"turn x {word}", f"turn {word} {word}",
                            f"within x {word} a", f"within x a {word}", f"within {word} {word} {word}", f"same {word} a",
                            f"same a {word}", f"same {word} {word}"], NoName)

    def test_what_is_no_whole_number(self):
        for word in NO_FIGURES:
            self.check_all([f"maze x l {word}", f"maze x l {word} 1", f"maze x l 1 {word}", f"maze a l 1 2 {word} 3",
                            f"pick x l {word} 0", f"pick x l 3 {word}", f"pick a l {word} {word}", f"count {word}"], NoRow)

    def test_whole_numbers_of_up_to_sixty_figures(self):
        self.check_all(["count " + "9" * 60, "count 1" + "0" * 59, "pick x l 3 " + "9" * 60, "pick x l " + "9" * 60 + " 0"],
                       NoNumber)
        self.check_all(["maze x l " + "9" * 60, "maze x l 1 " + "9" * 60, "maze x l 0", "maze x l 0 1"], NoMaze)

    def test_a_side_that_is_none(self):
        for word in NO_SIDE_WORDS:
            self.check_all([f"maze x {word}", f"maze x {word} 1", f"maze a {word} 3 2 1", f"code x {word} c", f"code x {word} ",
                            f"code a {word} acd", f"pick x {word} 3 0", f"pick a {word} 0 0"], NoMaze)

    def test_rings_twice_or_lacking(self):
        self.check_all(["maze x l 1 1", "maze x l 2", "maze x l 1 3", "maze x r 2 2", "maze x l 1 2 4", "maze a r 3 2 1 1",
                        "maze x l 0 1 2", "maze x l 3 2 1 0"], NoMaze)

    def test_too_many_rings(self):
        for rings in (21, 22, 100):
            self.check("maze x l " + " ".join(map(str, range(1, rings + 1))), NoMaze)
        self.check_all(["within x twenty a", "within x a twenty", "within a twenty a", "within x twenty twenty",
                        "within twenty abcdefgh twenty"], NoMaze)

    def test_bows_that_cross(self):
        self.assertEqual(self.check("maze x l 2 1", Crossed).bows, ("l", (0, 2), (1, 3)))
        for maze in SHORT_CROSSED[::7] + LONG_CROSSED:
            for name in ("x", "a"):
                self.assertIn(self.check(f"maze {name} {shown(maze)}", Crossed).bows, plain_crossings(maze))

    def test_what_is_no_code(self):
        for code, at in [("d", 0), ("b", 0), ("x", 0), ("a", 1), ("ac", 2), ("acb", 3), ("aca", 3), ("acdx", 3), ("cbA", 2),
                         ("c\n", 1), ("cb" * 10 + "c", 0), ("a" * 1000, 0), ("0", 0), ("c1", 1), ("ad", 1)]:
            for name in ("x", "a"):
                self.assertEqual(self.check(f"code {name} l {code}", NoCode).at, at, code)
            self.assertRaises(NoCode, decoded, "l", code)

    def test_what_is_no_number(self):
        self.check_all(["pick x l 3 2", "pick x l 3 3", "pick a r 3 2", "pick x l 0 1", "pick x l 21 0", "pick x r 100 5",
                        "pick x l 20 19304190", "count 21", "count 22", "count 100"], NoNumber)

    def test_the_number_of_words_is_looked_at_ahead_of_the_words(self):
        self.check_all(["show X Y", "show zz zz", "mirror X", "mirror X zz 01", "within X zz", "count 01 x", "same zz",
                        "pick X q 01", "pick X q 01 01 01", "code X q", "code X q d d", "maze X", "maze zz", "draw X a"], NoRow)

    def test_the_first_fault_from_the_left(self):
        self.check_all(["maze X q 01", "maze X l 01", "maze X l 1 x", "maze X l 2 1", "maze  l 01", "maze X l 1 ",
                        "pick X q 01 5", "pick X l 3 01", "pick X l 01 0", "pick X l 21 0", "code X q d", "code X l d",
                        "code X q ", "mirror X zz", "mirror X a", "within X zz zz", "same X 01"], NoName)
        self.check_all(["pick x q 01 01", "maze x q 01", "maze x q 1 1 01", "maze x  01", "count x", "count X", "maze x l 1 01 01"],
                       NoRow)

    def test_the_words_ahead_of_what_a_maze_a_code_or_a_number_is_refused_with(self):
        self.check_all(["maze x q 01", "maze x l 2 1 01", "maze x l 1 1 x", "maze x l 2 1 ", "pick x q 3 01", "pick x q x 0",
                        "pick x l 21 01", "pick x l 01 99", "pick x l 3 " + "9" * 61,
                        "maze x l " + "1 " * 30 + "x"], NoRow)
        self.check_all(["within x twenty zz", "within X twenty twenty", "within x zz twenty", "maze X l 2 1", "maze X q 1",
                        "code X q c", "code X l d", "pick X l 3 9", "pick X q 3 0"], NoName)

    def test_what_a_side_is_refused_with_ahead_of_a_code_and_a_number(self):
        self.check_all(["code x q d", "code x q x", "code x L " + "c" * 21, "code x  d", "pick x q 3 9", "pick x q 21 0",
                        "pick x  21 9", "maze x q 2 1"], NoMaze)

    def test_a_refused_thing_stays_as_it_was(self):
        for thing in [["show a"], [["maze", "x"], ("l", [1])], []]:
            kept = copy.deepcopy(thing)
            self.check(thing, NoRow)
            self.assertEqual(thing, kept)

    def test_on_an_empty_desk(self):
        desk = Desk()
        for row, kind in [("show a", NoName), ("mirror a a", NoName), ("show A", NoName), ("maze a l 2 1", Crossed),
                          ("show a", NoName), ("code a l d", NoCode), ("pick a l 3 2", NoNumber), ("show a", NoName)]:
            self.assertRaises(kind, desk.say, row)
        self.assertEqual(desk.say("count 3"), "2")


if __name__ == "__main__":
    unittest.main()
