"""Points 16, 17 and 18: mazes put one within the other, and taken apart."""

import copy
import functools
import itertools
import unittest

from samples import LONG_CROSSED, LONG_DRAWABLE, NO_MAZES, SHORT_MAZES, UP, other, plain_bows, plain_crossings
from ringmaze.errors import NoMaze
from ringmaze.mazes import crossed
from ringmaze.nesting import apart, within
from ringmaze.words import is_maze

ALL_MAZES = SHORT_MAZES + LONG_DRAWABLE + LONG_CROSSED
FEW_RINGS = [maze for maze in SHORT_MAZES if len(maze[1]) <= 4]
# One maze of each number of rings that crosses and one that does not, on both sides.
OF_EACH_SIZE = (
    [(side, UP[:rings]) for rings in range(21) for side in "lr"]
    + [(side, UP[:rings][::-1]) for rings in range(2, 21) for side in "lr"]
)
NESTABLE = [(one, two) for one in OF_EACH_SIZE for two in OF_EACH_SIZE if len(one[1]) + len(two[1]) <= 20]


def plain_cuts(order):
    """The places where an order can be cut, straight from the words of the document."""
    return [k for k in range(1, len(order)) if sorted(order[:k]) == list(range(1, k + 1))]


def plain_side(maze, place):
    """The side of the bow between the ring at a place of the order and the row ahead of it."""
    rows = (0,) + maze[1]
    bow = tuple(sorted(rows[place:place + 2]))
    [side] = [side for side, bows in plain_bows(maze).items() if bow in bows]
    return side


def plain_parts(maze):
    """The parts of a maze, cut at each place where it can be."""
    order = maze[1]
    places = [0] + plain_cuts(order) + [len(order)]
    return [(plain_side(maze, start), tuple(ring - start for ring in order[start:end]))
            for start, end in zip(places, places[1:]) if start < end]


def put_together(parts):
    """The parts put within one another, the first outermost."""
    return functools.reduce(within, parts)


WHOLE_ORDERS = {rings: [order for order in itertools.permutations(range(1, rings + 1)) if not plain_cuts(order)]
                for rings in range(1, 7)}


def lists_of_whole_orders(rings):
    """All lists of orders that can't be cut, with so many rings together."""
    if rings == 0:
        return [[]]
    return [[order] + rest for first in range(1, rings + 1) for order in WHOLE_ORDERS[first]
            for rest in lists_of_whole_orders(rings - first)]


class WithinTest(unittest.TestCase):
    def check(self, one, two):
        told = within(one, two)
        self.assertIs(is_maze(told), True, (one, two))
        rings = len(one[1])
        self.assertEqual(told, (one[0], one[1] + tuple(rings + ring for ring in two[1])))
        drawable = not plain_crossings(one) and not plain_crossings(two)
        self.assertEqual(crossed(told) is None, drawable, (one, two))

    def test_ordinary_mazes(self):
        self.assertEqual(within(("l", (3, 2, 1)), ("l", (1, 2))), ("l", (3, 2, 1, 4, 5)))
        self.assertEqual(within(("r", (1, 2)), ("l", (3, 2, 1))), ("r", (1, 2, 5, 4, 3)))
        self.assertEqual(within(("r", (1,)), ("r", (1,))), ("r", (1, 2)))
        self.assertEqual(within(("l", (2, 1)), ("r", (2, 1))), ("l", (2, 1, 4, 3)))

    def test_few_rings_drawable_or_not(self):
        for one in FEW_RINGS:
            for two in FEW_RINGS:
                self.check(one, two)

    def test_up_to_twenty_rings_together(self):
        self.assertEqual({len(one[1]) + len(two[1]) for one, two in NESTABLE}, set(range(21)))
        for one, two in NESTABLE:
            self.check(one, two)

    def test_chosen_long_mazes(self):
        for maze in LONG_DRAWABLE + LONG_CROSSED:
            for small in SHORT_MAZES[:100]:
                if len(maze[1]) + len(small[1]) <= 20:
                    self.check(maze, small)
                    self.check(small, maze)

    def test_a_maze_without_rings_in_either_place(self):
        for side, order in ALL_MAZES:
            for empty in [("l", ()), ("r", ())]:
                self.assertEqual(within((side, order), empty), (side, order))
                self.assertEqual(within(empty, (side, order)), (empty[0], order))

    def test_the_inner_side_does_not_matter(self):
        for one in FEW_RINGS:
            for side, order in FEW_RINGS:
                self.assertEqual(within(one, (side, order)), within(one, (other(side), order)))

    def test_it_does_not_matter_which_two_are_put_together_first(self):
        for one, two, three in itertools.product(SHORT_MAZES[:10], repeat=3):
            self.assertEqual(within(within(one, two), three), within(one, within(two, three)))

    def test_more_than_twenty_rings_together(self):
        for one in OF_EACH_SIZE:
            for two in OF_EACH_SIZE:
                if len(one[1]) + len(two[1]) > 20:
                    self.assertRaises(NoMaze, within, one, two)

    def test_what_is_no_maze_in_either_place(self):
        for thing in NO_MAZES:
            with self.subTest(thing=thing):
                for maze in [("l", ()), ("r", (1,)), ("l", (2, 1)), ("r", UP)]:
                    self.assertRaises(NoMaze, within, thing, maze)
                    self.assertRaises(NoMaze, within, maze, thing)
                self.assertRaises(NoMaze, within, thing, thing)

    def test_things_handed_in_stay_as_they_were(self):
        for thing in [["l", [2, 1]], ("l", [3, 1, 2]), [("l", ())], ("l", (1, [2, 1]))]:
            kept = copy.deepcopy(thing)
            self.assertRaises(NoMaze, within, thing, ("l", (1,)))
            self.assertRaises(NoMaze, within, ("l", (1,)), thing)
            self.assertEqual(thing, kept)


class ApartTest(unittest.TestCase):
    def test_ordinary_mazes(self):
        self.assertEqual(apart(("l", (1,))), [("l", (1,))])
        self.assertEqual(apart(("r", (1, 2))), [("r", (1,)), ("l", (1,))])
        self.assertEqual(apart(("l", (3, 2, 1, 4))), [("l", (3, 2, 1)), ("r", (1,))])
        self.assertEqual(apart(("l", (1, 4, 3, 2))), [("l", (1,)), ("r", (3, 2, 1))])
        self.assertEqual(apart(("r", (2, 1, 3, 6, 5, 4))), [("r", (2, 1)), ("r", (1,)), ("l", (3, 2, 1))])
        self.assertEqual(apart(("l", (2, 3, 1))), [("l", (2, 3, 1))])

    def test_without_rings(self):
        self.assertEqual(apart(("l", ())), [])
        self.assertEqual(apart(("r", ())), [])

    def test_cut_at_just_the_places_where_it_can_be(self):
        for maze in ALL_MAZES:
            told = apart(maze)
            self.assertIs(type(told), list)
            self.assertEqual(told, plain_parts(maze), maze)

    def test_no_part_can_be_taken_apart(self):
        for maze in ALL_MAZES:
            for part in apart(maze):
                self.assertIs(is_maze(part), True, maze)
                self.assertGreater(len(part[1]), 0)
                self.assertEqual(plain_cuts(part[1]), [], maze)
                self.assertEqual(apart(part), [part])

    def test_drawable_just_where_all_parts_are(self):
        for maze in ALL_MAZES:
            drawable = all(not plain_crossings(part) for part in apart(maze))
            self.assertEqual(not plain_crossings(maze), drawable, maze)

    def test_twenty_rings(self):
        self.assertEqual(apart(("l", UP)), [("lr"[k % 2], (1,)) for k in range(20)])
        self.assertEqual(apart(("r", UP)), [("rl"[k % 2], (1,)) for k in range(20)])
        self.assertEqual(apart(("r", UP[::-1])), [("r", UP[::-1])])
        self.assertEqual(apart(("l", UP[18::-1] + (20,))), [("l", UP[18::-1]), ("r", (1,))])
        self.assertEqual(apart(("l", (1,) + UP[:0:-1])), [("l", (1,)), ("r", UP[18::-1])])

    def test_a_list_told_is_a_new_one(self):
        for maze in [("l", ()), ("l", (1, 2)), ("r", (3, 2, 1)), ("l", UP)]:
            first, second = apart(maze), apart(maze)
            kept = copy.deepcopy(second)
            self.assertIsNot(first, second)
            first.append(("l", (1,)))
            first.reverse()
            self.assertEqual(second, kept)
            self.assertEqual(apart(maze), kept)


class TogetherAndApartTest(unittest.TestCase):
    def test_the_parts_put_together_give_the_maze_again(self):
        for maze in ALL_MAZES:
            if maze[1]:
                self.assertEqual(put_together(apart(maze)), maze)

    def test_two_put_together_and_taken_apart_give_all_their_parts_again(self):
        for one in FEW_RINGS:
            for two in FEW_RINGS:
                told = [order for side, order in apart(within(one, two))]
                self.assertEqual(told, [order for side, order in apart(one) + apart(two)])

    def test_lists_of_mazes_are_told_again_but_for_the_sides(self):
        sides = itertools.cycle("lrrlr")
        for rings in range(1, 7):
            for orders in lists_of_whole_orders(rings):
                parts = [(next(sides), order) for order in orders]
                told = apart(put_together(parts))
                self.assertEqual(told[0][0], parts[0][0])
                self.assertEqual([order for side, order in told], orders)

    def test_each_maze_is_put_together_in_just_one_way(self):
        for rings in range(1, 7):
            told = [put_together([("l", order) for order in orders])[1] for orders in lists_of_whole_orders(rings)]
            self.assertEqual(sorted(told), list(itertools.permutations(range(1, rings + 1))))

    def test_long_lists_of_mazes(self):
        chosen = [(2, 1), (1,), (3, 2, 1), (2, 4, 1, 3), (1,), (5, 4, 3, 2, 1), (1,), (2, 3, 1)]
        for side in "lr":
            for start in range(len(chosen)):
                orders = chosen[start:] + chosen[:start]
                told = apart(put_together([(side, order) for order in orders]))
                self.assertEqual([order for at, order in told], orders)
                self.assertEqual(told[0][0], side)


if __name__ == "__main__":
    unittest.main()
