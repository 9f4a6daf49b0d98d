"""Points 13 and 14: the way of a drawing, the maze read back, and what is no drawing."""

import copy
import unittest

from samples import DRAWABLE, LONG_DRAWABLE, SHORT_DRAWABLE, THINGS, plain_bows, plain_height
from ringmaze.drawing import drawn
from ringmaze.errors import NoDrawing
from ringmaze.reading import read, way

SIGNS = "#.v@ \n"
SHORT_DRAWINGS = sorted({drawn(maze) for maze in SHORT_DRAWABLE})
DRAWINGS = sorted({drawn(maze) for maze in DRAWABLE})
TWENTY_RINGS = drawn(("l", tuple(range(1, 21))))
# By the same rule as all others, but of one ring more than a maze may have.
TWENTY_ONE_RINGS = "\n".join(
    ["#####", "#v###", "#.###"] + ["#...#", "###.#", "#...#", "#.###"] * 10 + ["#...#", "###.#", "###@#", "#####"])


def open_cells(text):
    return {(line, column) for line, signs in enumerate(text.split("\n"))
            for column, sign in enumerate(signs) if sign in ".v@"}


def neighbours(cell):
    line, column = cell
    return {(line - 1, column), (line + 1, column), (line, column - 1), (line, column + 1)}


def sign_at(text, cell):
    return text.split("\n")[cell[0]][cell[1]]


def spoke(maze):
    """The column 2 l, that the way goes over in each ring's line."""
    bows = plain_bows(maze)["l"]
    return 2 * max([plain_height(bow, bows) for bow in bows], default=0)


class WayTest(unittest.TestCase):
    def test_ordinary_ways(self):
        self.assertEqual(way("###\n#v#\n#.#\n#@#\n###"), [(1, 1), (2, 1), (3, 1)])
        self.assertEqual(way("#####\n#v###\n#.###\n#...#\n###.#\n###@#\n#####"),
                         [(1, 1), (2, 1), (3, 1), (3, 2), (3, 3), (4, 3), (5, 3)])
        self.assertEqual(way("#####\n###v#\n###.#\n#...#\n#.###\n#@###\n#####"),
                         [(1, 3), (2, 3), (3, 3), (3, 2), (3, 1), (4, 1), (5, 1)])

    def test_how_many_open_neighbours(self):
        for text in DRAWINGS:
            cells = open_cells(text)
            for cell in cells:
                ends = 1 if sign_at(text, cell) in "v@" else 2
                self.assertEqual(len(neighbours(cell) & cells), ends, (text, cell))

    def test_each_open_cell_once_from_the_mouth_to_the_middle(self):
        for text in DRAWINGS:
            told = way(text)
            self.assertIs(type(told), list)
            for cell in told:
                self.assertIs(type(cell), tuple)
            self.assertEqual(sorted(told), sorted(open_cells(text)))
            self.assertEqual((sign_at(text, told[0]), sign_at(text, told[-1])), ("v", "@"))
            for here, ahead in zip(told, told[1:]):
                self.assertIn(ahead, neighbours(here))

    def test_walked_by_hand(self):
        for text in DRAWINGS:
            cells = open_cells(text)
            here = next(cell for cell in cells if sign_at(text, cell) == "v")
            walked = [here]
            while sign_at(text, here) != "@":
                ahead = [cell for cell in neighbours(here) & cells if cell not in walked[-2:]]
                self.assertEqual(len(ahead), 1)
                here = ahead[0]
                walked.append(here)
            self.assertEqual(way(text), walked)

    def test_over_the_spoke_in_the_order_of_the_rings(self):
        for maze in DRAWABLE:
            if maze[1]:
                middle = spoke(maze)
                lines = [line for line, column in way(drawn(maze)) if column == middle]
                self.assertEqual(lines, [2 * ring + 1 for ring in maze[1]], maze)

    def test_it_comes_to_the_spoke_from_the_mazes_side(self):
        for side, order in DRAWABLE:
            sides = []
            middle = spoke((side, order))
            told = way(drawn((side, order)))
            for here, ahead in zip(told, told[1:]):
                if order and ahead[1] == middle:
                    sides.append("l" if here[1] < ahead[1] else "r")
            self.assertEqual("".join(sides), ("lr" * 10 if side == "l" else "rl" * 10)[:len(order)])

    def test_a_list_told_is_a_new_one(self):
        for text in SHORT_DRAWINGS[:10] + [TWENTY_RINGS]:
            first, second = way(text), way(text)
            kept = list(first)
            self.assertIsNot(first, second)
            first.reverse()
            first.append((0, 0))
            self.assertEqual(second, kept)
            self.assertEqual(way(text), kept)


class ReadTest(unittest.TestCase):
    def test_without_rings_the_left_one_is_told(self):
        self.assertEqual(read("###\n#v#\n#.#\n#@#\n###"), ("l", ()))
        self.assertEqual(read(drawn(("r", ()))), ("l", ()))

    def test_ordinary_drawings(self):
        self.assertEqual(read("#####\n#v###\n#.###\n#...#\n###.#\n###@#\n#####"), ("l", (1,)))
        self.assertEqual(read("#####\n###v#\n###.#\n#...#\n#.###\n#@###\n#####"), ("r", (1,)))

    def test_what_is_drawn_is_read_back(self):
        for side, order in DRAWABLE:
            told = read(drawn((side, order)))
            self.assertEqual(told, (side if order else "l", order))
            self.assertEqual((type(told), type(told[1])), (tuple, tuple))

    def test_no_two_are_drawn_alike_but_those_without_rings(self):
        self.assertEqual(len(SHORT_DRAWINGS), len(SHORT_DRAWABLE) - 1)


class NoDrawingTest(unittest.TestCase):
    def check_refused(self, thing):
        self.assertRaises(NoDrawing, read, thing)
        self.assertRaises(NoDrawing, way, thing)

    def test_what_is_no_text_or_no_drawing(self):
        drawing = SHORT_DRAWINGS[0]
        for thing in THINGS + [[drawing], (drawing,), drawing.split("\n"), tuple(drawing.split("\n")),
                               [list(line) for line in drawing.split("\n")], [[drawing]], (drawing, drawing)]:
            with self.subTest(thing=thing):
                kept = copy.deepcopy(thing)
                self.check_refused(thing)
                self.assertEqual(thing, kept)

    def test_short_texts(self):
        for text in ["", "\n", "#", "v", "@", ".", "v@", "v\n@", "v\n.\n@", "#v#\n#.#\n#@#", "###\n#v#\n#@#\n###",
                     "###\n#v#\n#.#\n#@#", "#v#\n#.#\n#@#\n###", "v" * 3000, "." * 3000, "#" * 3000, "\n" * 3000,
                     "###\n#@#\n#.#\n#v#\n###", "###\n#v#\n#.#\n#.#\n###", "###\n#.#\n#.#\n#@#\n###",
                     "#####\n#v.@#\n#####", "####\n#v##\n#.##\n#@##\n####", "####\n##v#\n##.#\n##@#\n####"]:
            with self.subTest(text=text):
                self.check_refused(text)

    def test_each_sign_changed(self):
        for text in SHORT_DRAWINGS:
            for place, sign in enumerate(text):
                for wrong in SIGNS.replace(sign, ""):
                    self.check_refused(text[:place] + wrong + text[place + 1:])

    def test_each_sign_taken_out(self):
        for text in SHORT_DRAWINGS:
            for place in range(len(text)):
                self.check_refused(text[:place] + text[place + 1:])

    def test_each_sign_put_in(self):
        for text in SHORT_DRAWINGS:
            for place in range(len(text) + 1):
                for sign in SIGNS:
                    self.check_refused(text[:place] + sign + text[place:])

    def test_other_signs(self):
        for text in SHORT_DRAWINGS[:12]:
            for place in range(len(text)):
                for sign in "xV^oO*-|0,:;~=/\\\"'":
                    self.check_refused(text[:place] + sign + text[place + 1:])

    def test_one_sign_wrong_in_a_long_one(self):
        for maze in LONG_DRAWABLE[-3:]:
            text = drawn(maze)
            for place in range(0, len(text), 17):
                for sign in SIGNS.replace(text[place], ""):
                    self.check_refused(text[:place] + sign + text[place + 1:])
                self.check_refused(text[:place] + text[place + 1:])

    def test_a_line_left_out_or_twice(self):
        for text in DRAWINGS:
            lines = text.split("\n")
            for k, line in enumerate(lines):
                self.check_refused("\n".join(lines[:k] + lines[k + 1:]))
                self.check_refused("\n".join(lines[:k] + [line] + lines[k:]))
                self.check_refused("\n".join(lines[:k] + ["#" * len(line)] + lines[k:]))
                self.check_refused("\n".join(lines[:k] + [""] + lines[k:]))

    def test_two_lines_left_out_or_put_in(self):
        """So many lines are those of another number of rings: it is a drawing just where one of its mazes is so drawn."""
        for text in SHORT_DRAWINGS:
            lines = text.split("\n")
            for k in range(len(lines) - 1):
                one, two = lines[k:k + 1], lines[k + 1:k + 2]
                for middle in [[], one * 3 + two, one * 2 + two * 2, one + two + one + two]:
                    others = lines[:k] + middle + lines[k + 2:]
                    if "\n".join(others) in SHORT_DRAWINGS:
                        self.assertEqual(drawn(read("\n".join(others))), "\n".join(others))
                    elif len(others) <= 17:
                        self.check_refused("\n".join(others))

    def test_two_lines_changed_for_one_another(self):
        for text in DRAWINGS:
            lines = text.split("\n")
            for k in range(len(lines) - 1):
                others = lines[:k] + [lines[k + 1], lines[k]] + lines[k + 2:]
                if others != lines:
                    self.check_refused("\n".join(others))

    def test_a_line_made_longer_or_shorter(self):
        for text in DRAWINGS:
            lines = text.split("\n")
            for k, line in enumerate(lines):
                for other in [line + "#", "#" + line, line + "##", line + " ", line[1:], line[:-1]]:
                    self.check_refused("\n".join(lines[:k] + [other] + lines[k + 1:]))

    def test_all_lines_made_longer_or_shorter(self):
        for text in DRAWINGS:
            lines = text.split("\n")
            for end in ["#", "##", " ", ".", "####"]:
                self.check_refused("\n".join(line + end for line in lines))
                self.check_refused("\n".join(end + line for line in lines))
            self.check_refused("\n".join(line[1:] for line in lines))
            self.check_refused("\n".join(line[:-1] for line in lines))

    def test_a_wall_made_thicker(self):
        for text in DRAWINGS:
            lines = text.split("\n")
            wall = "#" * len(lines[0])
            for ahead, behind in [(1, 0), (0, 1), (1, 1), (2, 0), (0, 2), (2, 2)]:
                self.check_refused("\n".join([wall] * ahead + lines + [wall] * behind))
                self.check_refused("\n".join("#" * ahead + line + "#" * behind for line in lines))

    def test_a_column_left_out_or_twice(self):
        for text in DRAWINGS:
            lines = text.split("\n")
            for k in range(len(lines[0])):
                self.check_refused("\n".join(line[:k] + line[k + 1:] for line in lines))
                self.check_refused("\n".join(line[:k] + line[k] + line[k:] for line in lines))
                self.check_refused("\n".join(line[:k] + line[k] * 2 + line[k:] for line in lines))

    def test_something_ahead_or_behind(self):
        for text in DRAWINGS:
            for more in [" ", "\n", "\n\n", " \n", "\n ", "#", "x", "\t"]:
                self.check_refused(more + text)
                self.check_refused(text + more)
            self.check_refused("\n" + text + "\n")
            self.check_refused(text + "\n" + text)

    def test_mouth_and_middle_changed_for_one_another(self):
        for text in DRAWINGS:
            self.check_refused(text.replace("v", "x").replace("@", "v").replace("x", "@"))

    def test_an_island_beside_the_way(self):
        text = TWENTY_RINGS
        lines = text.split("\n")
        for line, signs in enumerate(lines):
            for column, sign in enumerate(signs):
                if sign == "#" and not neighbours((line, column)) & open_cells(text):
                    self.check_refused("\n".join(lines[:line] + [signs[:column] + "." + signs[column + 1:]]
                                                 + lines[line + 1:]))

    def test_a_way_drawn_otherwise(self):
        """Ways that can be walked, but bows not in the columns or rings not on the lines of the document."""
        for lines in [["#######", "#v#####", "#.#####", "#.....#", "#####.#", "#####@#", "#######"],
                      ["#####", "#v###", "#...#", "###.#", "###.#", "###@#", "#####"],
                      ["#####", "#v..#", "###.#", "###.#", "###.#", "###@#", "#####"],
                      ["###", "#v#", "#.#", "#.#", "#.#", "#@#", "###"],
                      ["#########", "#v#######", "#.#######", "#.......#", "#######.#", "###.....#", "###.#####",
                       "###@#####", "#########"]]:
            self.check_refused("\n".join(lines))

    def test_more_than_twenty_rings(self):
        self.assertEqual(read(TWENTY_RINGS), ("l", tuple(range(1, 21))))
        self.assertEqual(TWENTY_ONE_RINGS.split("\n")[:41], TWENTY_RINGS.split("\n")[:41])
        self.assertEqual(len(TWENTY_ONE_RINGS.split("\n")), 47)
        self.check_refused(TWENTY_ONE_RINGS)


if __name__ == "__main__":
    unittest.main()
