"""Points 27 and 28: states, and the next one by a letter."""

import unittest

from samples import DRAWABLE, SEVEN_RINGS, UP_TO_SEVEN, plain_code, plain_reached, plain_state, plain_step
from ringmaze.states import begun, step

REACHED = {side: plain_reached(side, 8) for side in "lr"}


def mirrored_text(text):
    """The state seen from the other side of the spoke."""
    return text[::-1].replace("(", "<").replace(")", "(").replace("<", ")")


def state_behind(maze, row):
    """The state behind a row of a drawable maze, read off its way: a bow that leads on is cut there."""
    side, order = maze
    rows = (0,) + order + (len(order) + 1,)
    piece, lefts, rights = 0, [], []
    for here, ahead in zip(rows, rows[1:]):
        if ahead <= row < here:
            piece += 1
        if min(here, ahead) <= row < max(here, ahead):
            (lefts if side == "l" else rights).append((min(here, ahead), piece))
        side = {"l": "r", "r": "l"}[side]
    return plain_state((tuple(piece for outer, piece in sorted(lefts)),
                        tuple(piece for outer, piece in sorted(rights, reverse=True))))


def walked(side, letters):
    state = begun(side)
    for letter in letters:
        state = step(state, letter)
    return state


class StatesTest(unittest.TestCase):
    def test_begun(self):
        self.assertEqual(begun("l"), "*|")
        self.assertEqual(begun("r"), "|*")

    def test_the_letters_that_the_document_tells(self):
        self.assertEqual([step("(|)*", letter) for letter in "abcd"], ["((|))*", "()|*", "|()*", None])

    def test_ordinary_states(self):
        self.assertEqual([step("*|", letter) for letter in "abcd"], ["*(|)", None, "|*", None])
        self.assertEqual([step("|*", letter) for letter in "abcd"], ["(|)*", "*|", None, None])
        self.assertEqual([step("()|*", letter) for letter in "abcd"], ["()(|)*", "()*|", "(|)*", "*|"])
        self.assertEqual([step("*|()", letter) for letter in "abcd"], ["*(|)()", "*(|)", "|*()", "|*"])
        self.assertEqual([step("((|))()*", letter) for letter in "abcd"],
                         ["(((|)))()*", "(()|)()*", "(|())()*", None])

    def test_each_way_to_join_two_pieces(self):
        self.assertEqual(step("*()|()", "d"), "*(|)")
        self.assertEqual(step("*(|())", "d"), "*|()")
        self.assertEqual(step("(()|)*", "d"), "()|*")
        self.assertEqual(step("*(((|(()))))", "d"), "*((|()()))")
        self.assertEqual(step("*|(())()", "d"), "|()*()")
        self.assertEqual(step("()(())|*", "d"), "()*()|")
        self.assertEqual(step("(())((())|)*", "d"), "(())()()|*")

    def test_none_where_a_side_has_no_bow(self):
        for side in "lr":
            for state in REACHED[side]:
                left, right = state.split("|")
                if not left:
                    self.assertIsNone(step(state, "c"), state)
                if not right:
                    self.assertIsNone(step(state, "b"), state)
                if not left or not right:
                    self.assertIsNone(step(state, "d"), state)

    def test_none_where_a_round_would_be_closed(self):
        for side in "lr":
            closing = [state for state in REACHED[side] if "(|)" in state]
            self.assertGreater(len(closing), 100)
            for state in closing:
                self.assertIsNone(step(state, "d"), state)

    def test_each_state_of_up_to_eight_rows_against_the_pieces(self):
        for side in "lr":
            self.assertGreater(len(REACHED[side]), 700)
            self.assertIn(begun(side), REACHED[side])
            found = {begun(side): True}
            for state, pieces in REACHED[side].items():
                for letter in "abcd":
                    ahead = plain_step(pieces, letter)
                    expected = None if ahead is None else plain_state(ahead)
                    told = step(state, letter)
                    self.assertEqual(told, expected, (state, letter))
                    found[told] = True
            self.assertEqual([state for state in REACHED[side] if state not in found], [])

    def test_the_states_of_drawable_mazes(self):
        for maze in DRAWABLE + SEVEN_RINGS:
            code = plain_code(maze)
            for row in range(len(code) + 1):
                self.assertEqual(walked(maze[0], code[:row]), state_behind(maze, row), (maze, row))

    def test_behind_the_last_ring_one_sign_is_left(self):
        for maze in UP_TO_SEVEN:
            self.assertIn(walked(maze[0], plain_code(maze)), ("*|", "|*"))

    def test_mirrored(self):
        letters = {"a": "a", "b": "c", "c": "b", "d": "d"}
        for state in REACHED["l"]:
            self.assertIn(mirrored_text(state), REACHED["r"])
            for letter in "abcd":
                told = step(mirrored_text(state), letters[letter])
                self.assertEqual(told if told is None else mirrored_text(told), step(state, letter))

    def test_twenty_rows(self):
        self.assertEqual(walked("l", "a" * 20), "*" + "(" * 20 + "|" + ")" * 20)
        self.assertEqual(walked("r", "a" * 20), "(" * 20 + "|" + ")" * 20 + "*")
        self.assertEqual(walked("r", "a" * 10 + "c" * 10), "|" + "(" * 10 + ")" * 10 + "*")
        self.assertEqual(walked("l", "a" * 10 + "b" * 10), "*" + "(" * 10 + ")" * 10 + "|")
        self.assertEqual(walked("l", "cb" * 10), "*|")
        self.assertEqual(walked("r", "ab" * 10), "()" * 10 + "|*")
        self.assertEqual(walked("r", "ab" * 9 + "ad"), None)
        self.assertEqual(walked("r", "ab" * 10 + "d"), "()" * 9 + "*|")


if __name__ == "__main__":
    unittest.main()
