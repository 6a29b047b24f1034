"""Tests of peakpeel.texts: point 14."""

import random
import unittest

from peakpeel import errors
from peakpeel.texts import read_row, show_row
from tests.plain import ROW_TEXT, all_rows, drawn_entries, drawn_rows, plain_text, with_changed_signs
from tests.wrong import NOT_TEXTS, WRONG_TEXTS


class ExampleTest(unittest.TestCase):
    def test_interface(self):
        self.assertEqual(
            [show_row([3, -5, 0]), show_row([]), read_row("-"), read_row("-1 0")], ["3 -5 0", "-", [], [-1, 0]],
        )

    def test_by_hand(self):
        for row, text in [
            ([0], "0"), ([0, 0], "0 0"), ([-1], "-1"), ([10], "10"), ([-10, 100], "-10 100"), ([7, -0], "7 0"),
            ([10 ** 31 - 1, 1 - 10 ** 31], "9" * 31 + " -" + "9" * 31),
        ]:
            self.assertEqual(show_row(row), text)
            self.assertEqual(read_row(text), row)


class RoundTripTest(unittest.TestCase):
    def check(self, row):
        text = show_row(row)
        self.assertIs(type(text), str)
        self.assertEqual(text, plain_text(row))
        self.assertEqual(read_row(text), row)
        self.assertEqual({type(entry) for entry in read_row(text)} | {int}, {int})

    def test_short_rows(self):
        for length in range(5):
            for row in all_rows(length, 4):
                self.check([entry - 1 for entry in row])
        for entry in range(-1200, 1201):
            self.check([entry])

    def test_drawn_rows(self):
        for row in drawn_entries(400, 60, 101) + drawn_rows(50, 70, 102):
            self.check(row)

    def test_longest_rows(self):
        for row in ([10 ** 31 - 1] * 60, [1 - 10 ** 31] * 70, [0] * 70, [10 ** 30, -10 ** 30] * 30):
            self.check(row)

    def test_beyond_the_limits(self):
        for row in ([10 ** 200, -10 ** 200] * 20, list(range(-1500, 1500)), [10 ** 2000]):
            self.check(row)


class ReadTest(unittest.TestCase):
    def check(self, text):
        """Reads any text by the form of the texts of rows, which each row has only one of."""
        if ROW_TEXT.fullmatch(text):
            row = read_row(text)
            self.assertEqual(row, [] if text == "-" else [int(word) for word in text.split(" ")])
            self.assertEqual(show_row(row), text)
            return True
        with self.assertRaises(errors.InvalidText):
            read_row(text)
        return False

    def test_changed_signs(self):
        chance = random.Random(103)
        found = []
        for row in drawn_entries(1500, 6, 104) + drawn_entries(100, 60, 105) + [[0], [], [-1, 0]] * 200:
            found.append(self.check(with_changed_signs(plain_text(row), chance.randint(1, 2), chance)))
        self.assertGreater(found.count(True), 100)
        self.assertGreater(found.count(False), 300)

    def test_all_texts_of_few_signs(self):
        signs = " -01"
        for length in range(6):
            for number in range(len(signs) ** length):
                text = ""
                for _ in range(length):
                    number, sign = divmod(number, len(signs))
                    text += signs[sign]
                self.check(text)

    def test_no_texts(self):
        for text in WRONG_TEXTS:
            with self.subTest(text=text):
                self.assertFalse(self.check(text))
        for at, value in enumerate(NOT_TEXTS):
            with self.subTest(at=at):
                with self.assertRaises(errors.PeakError) as caught:
                    read_row(value)
                self.assertIs(type(caught.exception), errors.InvalidText)
