"""Points 11 and 12: drawings, sign by sign, and what is refused."""

import copy
import unittest

from samples import (DRAWABLE, LONG_CROSSED, LONG_DRAWABLE, NO_MAZES, SHORT_CROSSED, plain_bows, plain_crossings,
                     plain_height)
from ringmaze.drawing import drawn
from ringmaze.errors import Crossed, NoMaze

ONE_RING = """\
#####
#v###
#.###
#...#
###.#
###@#
#####"""
NO_RINGS = """\
###
#v#
#.#
#@#
###"""
TWO_RINGS = """\
#####
#v###
#.###
#...#
###.#
#...#
#.###
#@###
#####"""
THREE_RINGS_FROM_THE_RIGHT = """\
#########
#######v#
#######.#
#.....#.#
#.###.#.#
#.#...#.#
#.#.###.#
#.#.....#
#.#######
#@#######
#########"""
FOUR_RINGS = """\
#########
#v#######
#.#######
#.#.....#
#.#.###.#
#.#...#.#
#.###.#.#
#.....#.#
#######.#
###.....#
###.#####
###@#####
#########"""


class Plan:
    """What point 11 says of a maze's drawing, each cell looked at by itself."""

    def __init__(self, maze):
        self.rings = len(maze[1])
        bows = plain_bows(maze)
        left = {bow: plain_height(bow, bows["l"]) for bow in bows["l"]}
        right = {bow: plain_height(bow, bows["r"]) for bow in bows["r"]}
        self.l = max(left.values(), default=0)
        self.r = max(right.values(), default=0)
        self.left = {bow: 2 * (self.l - h) + 1 for bow, h in left.items()}
        self.right = {bow: 2 * self.l + 2 * h - 1 for bow, h in right.items()}

    def is_open(self, line, column):
        for (a, b), at in list(self.left.items()) + list(self.right.items()):
            if column == at and 2 * a + 1 <= line <= 2 * b + 1:
                return True
        for ring in range(1, self.rings + 1):
            if line == 2 * ring + 1:
                first = [at for bow, at in self.left.items() if ring in bow]
                last = [at for bow, at in self.right.items() if ring in bow]
                return first[0] <= column <= last[0]
        return False

    def sign(self, line, column):
        if not self.is_open(line, column):
            return "#"
        return {1: "v", 2 * self.rings + 3: "@"}.get(line, ".")


class DrawnTest(unittest.TestCase):
    def test_the_drawing_that_the_document_shows(self):
        self.assertEqual(drawn(("l", (1,))), ONE_RING)

    def test_without_rings(self):
        self.assertEqual(drawn(("l", ())), NO_RINGS)
        self.assertEqual(drawn(("r", ())), NO_RINGS)

    def test_drawings_made_by_hand(self):
        self.assertEqual(drawn(("l", (1, 2))), TWO_RINGS)
        self.assertEqual(drawn(("r", (3, 2, 1))), THREE_RINGS_FROM_THE_RIGHT)
        self.assertEqual(drawn(("l", (3, 2, 1, 4))), FOUR_RINGS)

    def test_sizes(self):
        for maze in DRAWABLE:
            plan = Plan(maze)
            lines = drawn(maze).split("\n")
            self.assertEqual(len(lines), 2 * plan.rings + 5, maze)
            for line in lines:
                self.assertEqual(len(line), 2 * (plan.l + plan.r) + 1, maze)

    def test_the_widest_has_forty_one_columns(self):
        self.assertEqual(max(drawn(maze).index("\n") for maze in LONG_DRAWABLE), 41)

    def test_each_cell(self):
        for maze in DRAWABLE:
            plan = Plan(maze)
            lines = drawn(maze).split("\n")
            for line, signs in enumerate(lines):
                told = "".join(plan.sign(line, column) for column in range(len(signs)))
                self.assertEqual(signs, told, (maze, line))

    def test_walls_all_round(self):
        for maze in DRAWABLE:
            lines = drawn(maze).split("\n")
            self.assertEqual(set(lines[0] + lines[-1]), {"#"})
            self.assertEqual({line[0] + line[-1] for line in lines}, {"##"})

    def test_one_mouth_and_one_middle(self):
        for side, order in DRAWABLE:
            text = drawn((side, order))
            lines = text.split("\n")
            self.assertEqual((text.count("v"), text.count("@")), (1, 1))
            self.assertEqual((lines[1].count("v"), lines[-2].count("@")), (1, 1))
            self.assertEqual((lines[1].count("#"), lines[-2].count("#")), (len(lines[0]) - 1,) * 2)
            self.assertEqual(set(text), set("#.v@\n"))

    def test_columns_of_the_mouth_and_the_middle(self):
        for side, order in DRAWABLE:
            if order:
                plan = Plan((side, order))
                lines = drawn((side, order)).split("\n")
                self.assertEqual(lines[1].index("v") < 2 * plan.l, side == "l")
                self.assertEqual(lines[-2].index("@") < 2 * plan.l, (side == "l") == (len(order) % 2 == 0))

    def test_a_text_is_told(self):
        for maze in DRAWABLE:
            self.assertIs(type(drawn(maze)), str)
            self.assertEqual(drawn(maze), drawn(maze))


class RefusedTest(unittest.TestCase):
    def test_what_crosses(self):
        for maze in SHORT_CROSSED + LONG_CROSSED:
            with self.assertRaises(Crossed) as caught:
                drawn(maze)
            self.assertIs(type(caught.exception.bows), tuple)
            self.assertIn(caught.exception.bows, plain_crossings(maze))

    def test_what_is_no_maze(self):
        for thing in NO_MAZES:
            with self.subTest(thing=thing):
                kept = copy.deepcopy(thing)
                self.assertRaises(NoMaze, drawn, thing)
                self.assertEqual(thing, kept)

    def test_a_drawing_is_no_maze(self):
        for thing in [ONE_RING, NO_RINGS, [ONE_RING], (ONE_RING,), ("l", ONE_RING)]:
            self.assertRaises(NoMaze, drawn, thing)


if __name__ == "__main__":
    unittest.main()
