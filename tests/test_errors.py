"""Tests of [3] and of hitlog/errors.py."""

import unittest

from hitlog import errors

PLAIN_NAMES = [
    "InvalidCapacity",
    "InvalidShelf",
    "InvalidLog",
    "InvalidPage",
    "InvalidPages",
    "InvalidHistory",
    "InvalidMoment",
    "InvalidIndex",
    "InvalidObservations",
    "InvalidTimes",
    "InvalidRule",
    "InvalidRequests",
    "InvalidMark",
    "InvalidPresence",
    "InvalidText",
    "NotPossible",
    "NotFinal",
    "NothingToUndo",
]
ALL_NAMES = PLAIN_NAMES + ["TooLarge"]


def class_of(name):
    return getattr(errors, name)


class ErrorClasses(unittest.TestCase):
    def test_plain_errors_take_no_argument(self):
        for name in PLAIN_NAMES:
            with self.subTest(name):
                error = class_of(name)()
                self.assertIsInstance(error, errors.ShelfError)
                self.assertIsInstance(error, ValueError)
                self.assertIs(type(error), class_of(name))

    def test_the_base_class(self):
        self.assertTrue(issubclass(errors.ShelfError, ValueError))
        self.assertIsNot(errors.ShelfError, ValueError)
        self.assertIsInstance(errors.ShelfError(), ValueError)

    def test_too_large_keeps_its_limit(self):
        for limit in (0, 16, 10**44):
            with self.subTest(limit):
                error = errors.TooLarge(limit)
                self.assertEqual(error.limit, limit)
                self.assertIs(type(error.limit), int)
                self.assertIsInstance(error, errors.ShelfError)
                self.assertIsInstance(error, ValueError)

    def test_too_large_by_name(self):
        self.assertEqual(errors.TooLarge(limit=16).limit, 16)

    def test_too_large_needs_its_limit(self):
        with self.assertRaises(TypeError):
            errors.TooLarge()

    def test_two_errors_keep_their_own_limits(self):
        first, second = errors.TooLarge(16), errors.TooLarge(3)
        self.assertEqual((first.limit, second.limit), (16, 3))

    def test_each_can_be_raised_and_caught(self):
        for name in PLAIN_NAMES:
            for caught in (class_of(name), errors.ShelfError, ValueError):
                with self.subTest(name), self.assertRaises(caught):
                    raise class_of(name)()
        for caught in (errors.TooLarge, errors.ShelfError, ValueError):
            with self.assertRaises(caught):
                raise errors.TooLarge(16)

    def test_no_class_is_a_superclass_of_another_one(self):
        for one in ALL_NAMES:
            self.assertTrue(issubclass(class_of(one), errors.ShelfError), one)
            self.assertIsNot(class_of(one), errors.ShelfError, one)
            for other in ALL_NAMES:
                if one != other:
                    self.assertFalse(issubclass(class_of(one), class_of(other)), (one, other))

    def test_the_classes_are_defined_in_this_file_under_their_names(self):
        for name in ["ShelfError"] + ALL_NAMES:
            self.assertEqual(class_of(name).__module__, "hitlog.errors")
            self.assertEqual(class_of(name).__name__, name)

    def test_there_is_no_other_error(self):
        classes = [name for name, value in vars(errors).items() if isinstance(value, type)]
        self.assertEqual(sorted(classes), sorted(["ShelfError"] + ALL_NAMES))


if __name__ == "__main__":
    unittest.main()
