"""Points 2 and 3 over the whole program: what one module tells agrees with what the others do."""

import itertools
import unittest

from samples import LONG_DRAWABLE, SHORT_MAZES, other, plain_crossings, plain_rounds, words_of_length
from ringmaze.bows import heights
from ringmaze.brackets import pairs
from ringmaze.closing import closed, opened
from ringmaze.codes import coded, decoded
from ringmaze.counts import count, listed, number_of, numbered
from ringmaze.desk import Desk
from ringmaze.drawing import drawn
from ringmaze.mazes import bows_of, crossed, vet
from ringmaze.nesting import apart, within
from ringmaze.reading import read, way
from ringmaze.rounds import closings, rounds
from ringmaze.turning import inside_out, mirrored

LISTED = [maze for rings in range(9) for side in "lr" for maze in listed(side, rings)]
MAZES = LISTED + LONG_DRAWABLE


def changed(code, letters):
    """A code with the letters `abcd` changed for others."""
    return code.translate(str.maketrans("abcd", letters))


class WholeTest(unittest.TestCase):
    def test_listed_are_just_those_of_which_no_bows_cross(self):
        kept = set(LISTED)
        for maze in SHORT_MAZES:
            self.assertEqual(maze in kept, crossed(maze) is None)
            self.assertEqual(maze in kept, not plain_crossings(maze))

    def test_drawn_and_read(self):
        for maze in MAZES:
            self.assertIs(vet(maze), True)
            text = drawn(maze)
            self.assertEqual(read(text), maze if maze[1] else ("l", ()))
            cells = way(text)
            self.assertEqual(len(cells), len(set(cells)))
            self.assertEqual(len(cells), len(text) - text.count("#") - text.count("\n"))

    def test_put_together_of_parts(self):
        for maze in MAZES:
            whole = (maze[0], ())
            for part in apart(maze):
                self.assertIs(vet(part), True)
                whole = within(whole, part)
            self.assertEqual(whole, maze)
            self.assertEqual("".join(coded(part) for part in apart(maze)), coded(maze))

    def test_letters_of_mazes_turned_about(self):
        for maze in MAZES:
            self.assertEqual(coded(mirrored(maze)), changed(coded(maze), "acbd"))
            self.assertEqual(coded(inside_out(maze)), changed(coded(maze), "dcba")[::-1])

    def test_letters_of_mazes_within_one_another(self):
        for outer, inner in itertools.product(LISTED[:60], repeat=2):
            come = outer[0] if len(outer[1]) % 2 == 0 else other(outer[0])
            self.assertEqual(coded(within(outer, inner)), coded(outer) + coded((come, inner[1])))

    def test_numbers_letters_and_rings_tell_the_same_maze(self):
        for side, rings in itertools.product("lr", range(9)):
            told = [numbered(side, rings, number) for number in range(count(rings))]
            self.assertEqual(told, listed(side, rings))
            self.assertEqual([decoded(side, coded(maze)) for maze in told], told)
            self.assertEqual([number_of(maze) for maze in told], list(range(len(told))))

    def test_as_many_mazes_of_odd_many_rings_as_pairs_with_one_round(self):
        for rings in (1, 3, 5, 7, 9):
            words = words_of_length(rings + 1)
            single = [pair for pair in itertools.product(words, repeat=2) if len(plain_rounds(*pair)) == 1]
            self.assertEqual(len(single), count(rings))
            self.assertEqual(sorted(opened(*pair) for pair in single), sorted(listed("l", rings)))
            self.assertEqual(sorted(closed(maze) for maze in listed("l", rings)), sorted(single))

    def test_every_list_told_is_the_askers_own(self):
        asks = [
            lambda: pairs("(())()"), lambda: heights([(0, 3), (1, 2)]), lambda: bows_of(("l", (3, 2, 1)))[0],
            lambda: bows_of(("l", (3, 2, 1)))[1], lambda: way(drawn(("l", (1,)))), lambda: apart(("l", (3, 2, 1, 4))),
            lambda: rounds("(())", "(())"), lambda: rounds("(())", "(())")[0], lambda: closings("(())", "()()"),
            lambda: listed("l", 5),
        ]
        kept = [repr(ask()) for ask in asks]
        for ask in asks:
            told = ask()
            self.assertIs(type(told), list)
            told.clear()
            told.append(None)
            self.assertEqual([repr(again()) for again in asks], kept)

    def test_what_was_asked_ahead_changes_no_answer(self):
        desk = Desk()
        first = [numbered("l", 7, 5), number_of(("r", (3, 2, 1))), count(9), listed("r", 4), coded(("l", (1, 2)))]
        for row in ["maze a l 1 2", "mirror a a", "pick b r 9 100", "within a a b", "count 12", "number a"]:
            desk.say(row)
        self.assertEqual([numbered("l", 7, 5), number_of(("r", (3, 2, 1))), count(9), listed("r", 4), coded(("l", (1, 2)))],
                         first)


if __name__ == "__main__":
    unittest.main()
