"""The refusals: one class for each, straight under FolkError."""

import unittest

from ontheline import errors
from samples import ALL_ERRORS

WITH_VALUE = {"NoText": "at", "NoFall": "hand"}


def made(name):
    kind = getattr(errors, name)
    return kind(3) if name in WITH_VALUE else kind("some words")


class Errors(unittest.TestCase):

    def test_folk_error_stands_straight_under_value_error(self):
        self.assertEqual(errors.FolkError.__bases__, (ValueError,))

    def test_all_listed_ones_are_there_and_no_others(self):
        there = [name for name, thing in vars(errors).items()
                 if isinstance(thing, type) and thing.__module__ == "ontheline.errors"]
        self.assertEqual(sorted(there), sorted(ALL_ERRORS + ["FolkError"]))
        self.assertEqual(len(ALL_ERRORS), 19)

    def test_each_stands_straight_under_folk_error(self):
        for name in ALL_ERRORS:
            with self.subTest(name=name):
                kind = getattr(errors, name)
                self.assertEqual(kind.__bases__, (errors.FolkError,))
                self.assertEqual(kind.__name__, name)

    def test_each_is_caught_by_its_own_class_and_those_above_alone(self):
        for name in ALL_ERRORS:
            for other in ALL_ERRORS + ["FolkError"]:
                with self.subTest(name=name, other=other):
                    caught = isinstance(made(name), getattr(errors, other))
                    self.assertEqual(caught, other in (name, "FolkError"))
            self.assertIsInstance(made(name), ValueError)

    def test_values(self):
        for at in (0, 1, 20, 10 ** 30):
            self.assertEqual(errors.NoText(at).at, at)
            self.assertEqual(errors.NoFall(at).hand, at)

    def test_values_come_with_what_is_raised(self):
        with self.assertRaises(errors.NoText) as held:
            raise errors.NoText(4)
        self.assertEqual(held.exception.at, 4)
        with self.assertRaises(errors.FolkError) as held:
            raise errors.NoFall(5)
        self.assertEqual(held.exception.hand, 5)

    def test_values_are_each_error_s_own(self):
        first, second = errors.NoText(1), errors.NoText(2)
        self.assertEqual((first.at, second.at), (1, 2))
        first, second = errors.NoFall(1), errors.NoFall(2)
        self.assertEqual((first.hand, second.hand), (1, 2))

    def test_each_tells_words(self):
        for name in ALL_ERRORS:
            self.assertTrue(str(made(name)))


if __name__ == "__main__":
    unittest.main()
