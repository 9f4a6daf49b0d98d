"""The interface of ringmaze.errors."""

import unittest

from ringmaze import errors
from ringmaze.brackets import pairs, word_of

NAMES = ["NoMaze", "Crossed", "NoWord", "NoDrawing", "NoBow", "NoRound", "NoCode", "NoNumber", "NoName", "NoRow"]
CLASSES = [getattr(errors, name) for name in NAMES]
BOWS = ((0, 2), (1, 3))


def made(kind):
    if kind is errors.Crossed:
        return kind(BOWS)
    if kind is errors.NoCode:
        return kind(7)
    return kind("words")


def refusal(call, thing):
    try:
        call(thing)
    except ValueError as error:
        return error
    return None


class ErrorsTest(unittest.TestCase):
    def check_taken(self, error, own):
        for kind in CLASSES:
            self.assertEqual(isinstance(error, kind), kind is own, (error, kind))
        self.assertIsInstance(error, errors.RingError)
        self.assertIsInstance(error, ValueError)

    def test_ring_error_stands_straight_under_value_error(self):
        self.assertEqual(errors.RingError.__bases__, (ValueError,))

    def test_each_stands_straight_under_ring_error(self):
        for kind in CLASSES:
            self.assertEqual(kind.__bases__, (errors.RingError,))

    def test_each_is_a_class_of_its_own(self):
        self.assertEqual(len(set(CLASSES)), 10)
        self.assertEqual([kind.__name__ for kind in CLASSES], NAMES)

    def test_what_is_made_is_taken_by_its_own_class_alone(self):
        for kind in CLASSES:
            with self.assertRaises(kind) as caught:
                raise made(kind)
            self.check_taken(caught.exception, kind)

    def test_crossed_has_bows(self):
        for bows in [BOWS, ("l", (0, 2), (1, 3)), ("r", (4, 9), (5, 10))]:
            self.assertEqual(errors.Crossed(bows).bows, bows)

    def test_no_code_has_at(self):
        for at in [0, 1, 20]:
            self.assertEqual(errors.NoCode(at).at, at)

    def test_the_value_is_each_objects_own(self):
        first, second = errors.NoCode(1), errors.NoCode(2)
        self.assertEqual((first.at, second.at), (1, 2))
        self.assertFalse(hasattr(errors.NoCode, "at"))
        self.assertFalse(hasattr(errors.Crossed, "bows"))

    def test_refusals_of_the_program(self):
        for call, things in [(pairs, ["(", ")(", "x", None, 3, [], "()" * 21]),
                             (word_of, [[(0, 2), (1, 3)], [(1, 0)], [[0, 1]], [(0, True)], None, (), "()"])]:
            for thing in things:
                self.check_taken(refusal(call, thing), errors.NoWord)


if __name__ == "__main__":
    unittest.main()
