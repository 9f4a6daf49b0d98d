"""Points 8, 9 and 10: the bows of mazes, two that cross, and what is refused."""

import copy
import unittest

from samples import (DRAWABLE, LONG_CROSSED, LONG_DRAWABLE, NO_MAZES, SHORT_CROSSED, SHORT_DRAWABLE, SHORT_MAZES, UP,
                     other, plain_bows, plain_crossings)
from ringmaze.errors import Crossed, NoMaze
from ringmaze.mazes import bows_of, crossed, vet

ALL_MAZES = SHORT_MAZES + LONG_DRAWABLE + LONG_CROSSED


class BowsOfTest(unittest.TestCase):
    def check(self, maze, left, right):
        told = bows_of(maze)
        self.assertEqual(told, (left, right), maze)
        self.assertIs(type(told), tuple)
        for bows in told:
            self.assertIs(type(bows), list)
            for bow in bows:
                self.assertIs(type(bow), tuple)

    def check_both_sides(self, order, near, far):
        self.check(("l", order), near, far)
        self.check(("r", order), far, near)

    def test_without_rings(self):
        self.check_both_sides((), [(0, 1)], [])

    def test_few_rings(self):
        self.check_both_sides((1,), [(0, 1)], [(1, 2)])
        self.check_both_sides((1, 2), [(0, 1), (2, 3)], [(1, 2)])
        self.check_both_sides((2, 1), [(0, 2), (1, 3)], [(1, 2)])
        self.check_both_sides((3, 2, 1), [(0, 3), (1, 2)], [(1, 4), (2, 3)])
        self.check_both_sides((2, 4, 1, 3), [(0, 2), (1, 4), (3, 5)], [(1, 3), (2, 4)])

    def test_rings_inwards(self):
        for rings in range(21):
            steps = [(row, row + 1) for row in range(rings + 1)]
            self.check_both_sides(UP[:rings], steps[::2], steps[1::2])

    def test_rings_outwards(self):
        for rings in range(2, 21):
            steps = [(0, rings)] + [(row - 1, row) for row in range(rings, 1, -1)] + [(1, rings + 1)]
            self.check_both_sides(UP[:rings][::-1], sorted(steps[::2]), sorted(steps[1::2]))

    def test_each_bow_and_each_side(self):
        for maze in ALL_MAZES:
            bows = plain_bows(maze)
            self.check(maze, sorted(bows["l"]), sorted(bows["r"]))

    def test_the_bows_join_each_row_as_often_as_the_way_comes_to_it(self):
        for side, order in ALL_MAZES:
            near, far = bows_of((side, order)) if side == "l" else bows_of((side, order))[::-1]
            rings = len(order)
            last = near if rings % 2 == 0 else far
            for row in range(1, rings + 1):
                self.assertEqual([sum(row in bow for bow in bows) for bows in (near, far)], [1, 1])
            self.assertEqual([sum(0 in bow for bow in bows) for bows in (near, far)], [1, 0])
            self.assertEqual(sum(rings + 1 in bow for bow in last), 1)
            self.assertEqual(len(near) + len(far), rings + 1)

    def test_lists_told_are_new_ones(self):
        for maze in [("l", ()), ("r", ()), ("l", (3, 2, 1)), ("r", (2, 1)), LONG_DRAWABLE[0]]:
            kept = copy.deepcopy(bows_of(maze))
            first, second = bows_of(maze), bows_of(maze)
            for one, two in zip(first, second):
                self.assertIsNot(one, two)
                one.append((7, 9))
                one.reverse()
            self.assertIsNot(first[0], first[1])
            self.assertEqual(second, kept)
            self.assertEqual(bows_of(maze), kept)


class CrossedTest(unittest.TestCase):
    def check_refused(self, maze):
        told = crossed(maze)
        self.assertIs(type(told), tuple)
        self.assertIn(told, plain_crossings(maze))
        with self.assertRaises(Crossed) as caught:
            vet(maze)
        self.assertIs(type(caught.exception.bows), tuple)
        self.assertIn(caught.exception.bows, plain_crossings(maze))

    def test_drawable_ones(self):
        for maze in DRAWABLE:
            self.assertIs(crossed(maze), None, maze)
            self.assertIs(vet(maze), True, maze)

    def test_how_many_are_drawable(self):
        told = [0] * 7
        for side, order in SHORT_MAZES:
            told[len(order)] += crossed((side, order)) is None
        self.assertEqual(told, [2, 2, 2, 4, 6, 16, 28])

    def test_each_order_of_up_to_six_rings(self):
        self.assertEqual(len(SHORT_DRAWABLE) + len(SHORT_CROSSED), 2 * (1 + 1 + 2 + 6 + 24 + 120 + 720))
        for maze in SHORT_CROSSED:
            self.check_refused(maze)

    def test_twenty_rings(self):
        for maze in LONG_CROSSED:
            self.check_refused(maze)

    def test_two_rings_changed_for_one_another(self):
        for side, order in LONG_DRAWABLE:
            for k in range(len(order) - 1):
                for maze_side in (side, other(side)):
                    maze = (maze_side, order[:k] + (order[k + 1], order[k]) + order[k + 2:])
                    if plain_crossings(maze):
                        self.check_refused(maze)
                    else:
                        self.assertIs(vet(maze), True, maze)

    def test_the_only_two_that_cross(self):
        for maze, bows in [(("l", (2, 1)), ("l", (0, 2), (1, 3))), (("r", (2, 1)), ("r", (0, 2), (1, 3))),
                           (("l", (1, 3, 2)), ("r", (1, 3), (2, 4))), (("r", (1, 3, 2)), ("l", (1, 3), (2, 4))),
                           (("l", (2, 1, 3)), ("l", (0, 2), (1, 3)))]:
            self.assertEqual(plain_crossings(maze), [bows])
            self.assertEqual(crossed(maze), bows)
            with self.assertRaises(Crossed) as caught:
                vet(maze)
            self.assertEqual(caught.exception.bows, bows)


class VetTest(unittest.TestCase):
    def test_what_is_no_maze(self):
        for thing in NO_MAZES:
            with self.subTest(thing=thing):
                self.assertRaises(NoMaze, vet, thing)

    def test_what_is_no_maze_is_told_ahead_of_what_crosses(self):
        for thing in [("l", (2, 1), ()), ("m", (2, 1)), ["l", (2, 1)], ("l", [2, 1]), ("l", (2, True)),
                      ("l", (21,) + UP[::-1][1:]), ("l", tuple(range(21, 0, -1))), ("r", (2, 1, 4))]:
            with self.subTest(thing=thing):
                self.assertRaises(NoMaze, vet, thing)

    def test_things_asked_of_stay_as_they_were(self):
        for thing in [["l", [2, 1]], ("l", [3, 1, 2]), [("l", ())], ("l", (1, [2, 1])), [[[[[1]]]]]]:
            kept = copy.deepcopy(thing)
            self.assertRaises(NoMaze, vet, thing)
            self.assertEqual(thing, kept)

    def test_asked_again_the_same_is_told(self):
        for maze in SHORT_CROSSED[:40] + LONG_CROSSED:
            self.assertRaises(Crossed, vet, maze)
            self.assertIn(crossed(maze), plain_crossings(maze))
            self.assertRaises(Crossed, vet, maze)
        self.assertIs(vet(("l", (1,))), True)
        self.assertIs(vet(("l", (1,))), True)


if __name__ == "__main__":
    unittest.main()
