"""Point 15: mazes mirrored, and turned inside out."""

import unittest

from samples import DRAWABLE, LONG_CROSSED, LONG_DRAWABLE, SHORT_MAZES, UP, other, plain_bows
from ringmaze.drawing import drawn
from ringmaze.mazes import bows_of, crossed
from ringmaze.turning import inside_out, mirrored
from ringmaze.words import is_maze

ALL_MAZES = SHORT_MAZES + LONG_DRAWABLE + LONG_CROSSED


def turned_lines(text):
    """The lines in the other order, the mouth and the middle changed for one another."""
    change = {"v": "@", "@": "v"}
    lines = ["".join(change.get(sign, sign) for sign in line) for line in text.split("\n")]
    return "\n".join(reversed(lines))


class MirroredTest(unittest.TestCase):
    def test_ordinary_mazes(self):
        self.assertEqual(mirrored(("l", ())), ("r", ()))
        self.assertEqual(mirrored(("r", ())), ("l", ()))
        self.assertEqual(mirrored(("l", (3, 2, 1))), ("r", (3, 2, 1)))
        self.assertEqual(mirrored(("r", (2, 1))), ("l", (2, 1)))

    def test_the_same_order_and_the_other_side(self):
        for side, order in ALL_MAZES:
            self.assertEqual(mirrored((side, order)), (other(side), order))
            self.assertIs(is_maze(mirrored((side, order))), True)

    def test_the_bows_change_sides(self):
        for maze in ALL_MAZES:
            self.assertEqual(bows_of(mirrored(maze)), bows_of(maze)[::-1])

    def test_twice_it_is_the_maze_again(self):
        for maze in ALL_MAZES:
            self.assertEqual(mirrored(mirrored(maze)), maze)

    def test_drawable_where_the_maze_is(self):
        for maze in ALL_MAZES:
            self.assertEqual(crossed(mirrored(maze)) is None, crossed(maze) is None, maze)

    def test_its_drawing_has_each_line_turned_about(self):
        for maze in DRAWABLE:
            lines = drawn(maze).split("\n")
            self.assertEqual(drawn(mirrored(maze)), "\n".join(line[::-1] for line in lines), maze)


class InsideOutTest(unittest.TestCase):
    def test_ordinary_mazes(self):
        self.assertEqual(inside_out(("l", ())), ("l", ()))
        self.assertEqual(inside_out(("r", ())), ("r", ()))
        self.assertEqual(inside_out(("l", (1,))), ("r", (1,)))
        self.assertEqual(inside_out(("r", (1, 2))), ("r", (1, 2)))
        self.assertEqual(inside_out(("l", (3, 2, 1))), ("r", (3, 2, 1)))
        self.assertEqual(inside_out(("l", (3, 2, 1, 4))), ("l", (1, 4, 3, 2)))
        self.assertEqual(inside_out(("r", (2, 4, 1, 5, 3))), ("l", (3, 1, 5, 2, 4)))
        self.assertEqual(inside_out(("l", UP)), ("l", UP))

    def test_its_side_is_that_of_the_last_bow(self):
        for side, order in ALL_MAZES:
            last = len(order) + 1
            told = [at for at, bows in plain_bows((side, order)).items() if any(last in bow for bow in bows)]
            self.assertEqual([inside_out((side, order))[0]], told)

    def test_its_order_is_the_way_backwards(self):
        for side, order in ALL_MAZES:
            rings = len(order)
            turned = inside_out((side, order))[1]
            self.assertIs(type(turned), tuple)
            self.assertEqual(len(turned), rings)
            for place in range(rings):
                self.assertEqual(turned[place], rings + 1 - order[rings - 1 - place])
            self.assertIs(is_maze(inside_out((side, order))), True)

    def test_its_bows_are_the_mazes_with_the_rows_the_other_way_round(self):
        for side, order in ALL_MAZES:
            last = len(order) + 1
            told = tuple(sorted((last - b, last - a) for a, b in bows) for bows in bows_of((side, order)))
            self.assertEqual(bows_of(inside_out((side, order))), told)

    def test_twice_it_is_the_maze_again(self):
        for maze in ALL_MAZES:
            self.assertEqual(inside_out(inside_out(maze)), maze)

    def test_drawable_where_the_maze_is(self):
        for maze in ALL_MAZES:
            self.assertEqual(crossed(inside_out(maze)) is None, crossed(maze) is None, maze)

    def test_its_drawing_has_the_lines_in_the_other_order(self):
        for maze in DRAWABLE:
            self.assertEqual(drawn(inside_out(maze)), turned_lines(drawn(maze)), maze)


class BothTest(unittest.TestCase):
    def test_both_in_either_order(self):
        for maze in ALL_MAZES:
            both = mirrored(inside_out(maze))
            self.assertEqual(both, inside_out(mirrored(maze)))
            self.assertEqual(both, (other(inside_out(maze)[0]), inside_out(maze)[1]))
            self.assertEqual(mirrored(inside_out(both)), maze)

    def test_the_drawing_of_both_is_turned_half_round(self):
        for maze in DRAWABLE:
            lines = turned_lines(drawn(maze)).split("\n")
            self.assertEqual(drawn(mirrored(inside_out(maze))), "\n".join(line[::-1] for line in lines))


if __name__ == "__main__":
    unittest.main()
