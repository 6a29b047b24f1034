"""Tests of peakpeel.errors: point 5 and the list of the interface."""

import unittest

from peakpeel import errors

ONE_TEXT = [
    "InvalidRow", "InvalidTimes", "InvalidPlace", "InvalidRounds", "InvalidNumber", "InvalidEntry", "InvalidIndex",
    "InvalidText", "InvalidCommand", "NotClear", "NotOrder", "NotTimes", "NothingToUndo", "NoRidge",
]


class ErrorTest(unittest.TestCase):
    def test_base_is_a_value_error(self):
        self.assertEqual(errors.PeakError.__bases__, (ValueError,))
        with self.assertRaises(ValueError):
            raise errors.PeakError("text")

    def test_classes_stand_directly_under_the_base(self):
        for name in ONE_TEXT + ["TooLarge"]:
            with self.subTest(name=name):
                kind = getattr(errors, name)
                self.assertEqual(kind.__bases__, (errors.PeakError,))
                self.assertEqual((kind.__name__, kind.__module__), (name, "peakpeel.errors"))

    def test_classes_are_created_with_one_text(self):
        for name in ONE_TEXT + ["PeakError"]:
            with self.subTest(name=name):
                kind = getattr(errors, name)
                self.assertEqual(str(kind("a text")), "a text")
                with self.assertRaises(kind):
                    raise kind("a text")

    def test_too_large_keeps_its_limit(self):
        for limit in (0, 40, 60, 600, 1000, 10 ** 31):
            with self.assertRaises(errors.PeakError) as caught:
                raise errors.TooLarge(limit)
            self.assertEqual(caught.exception.limit, limit)
            self.assertIs(type(caught.exception), errors.TooLarge)
        with self.assertRaises(TypeError):
            errors.TooLarge()

    def test_no_other_errors(self):
        names = [name for name, value in vars(errors).items() if isinstance(value, type)]
        self.assertEqual(sorted(names), sorted(ONE_TEXT + ["PeakError", "TooLarge"]))
