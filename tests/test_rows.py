"""Tests of peakpeel.rows: points 2 and 6 to 8."""

import unittest

from peakpeel.rows import block_sizes, is_row, peaks_of, peel_steps, peeled
from tests.plain import all_rows, drawn_rows, plain_blocks, plain_peaks, plain_rows
from tests.wrong import NOT_ROWS, ROWS_NOT_TIMES


def short_rows():
    """All rows of up to four numbers, five numbers, and the like."""
    shapes = [(0, 1), (1, 3), (2, 4), (3, 4), (4, 4), (5, 4), (6, 3), (7, 2), (8, 2)]
    return [row for length, below in shapes for row in all_rows(length, below)]


def long_rows():
    return drawn_rows(250, 70, 1) + drawn_rows(20, 200, 2)


class IsRowTest(unittest.TestCase):
    def test_rows(self):
        for row in [[], [0], [-5], [1, 1, 1], [10 ** 40, -10 ** 40, 0], list(range(500))] + ROWS_NOT_TIMES:
            self.assertIs(is_row(row), True)

    def test_other_values(self):
        for at, value in enumerate(NOT_ROWS):
            with self.subTest(at=at):
                self.assertIs(is_row(value), False)


class ExampleTest(unittest.TestCase):
    def test_interface(self):
        row = [5, 1, 4, 2, 3]
        self.assertEqual(
            [is_row([True]), peaks_of(row), peeled(row, 1), peeled(row, 10 ** 30), block_sizes(row, 1),
             block_sizes([3, 3, 9], 1)],
            [False, [0, 2, 4], [1, 2], [], (1, 3), (0, 1)],
        )
        self.assertEqual(list(peel_steps(row)), [[5, 1, 4, 2, 3], [1, 2], [1], []])

    def test_table_of_point_8(self):
        table = [
            ([5, 1, 4, 2, 3], [[1, 2], [1], []]),
            ([1, 2, 3], [[1, 2], [1], []]),
            ([3, 3, 9], [[3], [], []]),
        ]
        for row, after in table:
            self.assertEqual([peeled(row, rounds) for rounds in (1, 2, 3)], after[:2] + [[]])
            self.assertEqual(peeled(row, 0), row)

    def test_steps_of_the_table(self):
        self.assertEqual(list(peel_steps([1, 2, 3])), [[1, 2, 3], [1, 2], [1], []])
        self.assertEqual(list(peel_steps([3, 3, 9])), [[3, 3, 9], [3], []])


class PeakTest(unittest.TestCase):
    def test_by_hand(self):
        self.assertEqual(peaks_of([]), [])
        self.assertEqual(peaks_of([-7]), [0])
        self.assertEqual(peaks_of([4, 4]), [0, 1])
        self.assertEqual(peaks_of([4, 4, 4]), [0, 1, 2])
        self.assertEqual(peaks_of([1, 4, 4, 5]), [1, 3])
        self.assertEqual(peaks_of([1, 4, 4, 2]), [1, 2])
        self.assertEqual(peaks_of([5, 4, 4]), [0, 2])
        self.assertEqual(peaks_of([-10 ** 31, 10 ** 31, 10 ** 31 + 1, -1]), [2])

    def test_all_short_rows(self):
        for row in short_rows():
            self.assertEqual(peaks_of(row), plain_peaks(row), row)

    def test_drawn_rows(self):
        for row in long_rows():
            self.assertEqual(peaks_of(row), plain_peaks(row), row)


class RoundTest(unittest.TestCase):
    def test_all_short_rows(self):
        for row in short_rows():
            rows = plain_rows(row)
            self.assertEqual(list(peel_steps(row)), rows, row)
            for rounds in range(len(rows) + 2):
                after = rows[rounds] if rounds < len(rows) else []
                self.assertEqual(peeled(row, rounds), after, (row, rounds))

    def test_drawn_rows(self):
        for row in long_rows():
            rows = plain_rows(row)
            self.assertEqual(list(peel_steps(row)), rows, row)
            self.assertEqual([peeled(row, rounds) for rounds in range(len(rows))], rows, row)
            for rounds in (len(rows), len(rows) + 1, 10 ** 30, 10 ** 60):
                self.assertEqual(peeled(row, rounds), [], row)

    def test_steps_of_no_entries(self):
        self.assertEqual(list(peel_steps([])), [[]])
        self.assertEqual(list(peel_steps([0])), [[0], []])

    def test_very_long_rows(self):
        rising = list(range(3000))
        self.assertEqual(peeled(rising, 10 ** 30), [])
        self.assertEqual(peeled(rising, 2998), [0, 1])
        self.assertEqual(peeled(rising[::-1], 2999), [0])
        self.assertEqual(peeled([7] * 3000, 1), [])
        steps = peel_steps(rising)
        self.assertEqual([next(steps), next(steps)], [rising, rising[:-1]])


class BlockTest(unittest.TestCase):
    def test_by_hand(self):
        row = [2, 3, 1, 1, 4, 5, 1, 0]
        self.assertEqual(
            [block_sizes(row, place) for place in range(8)],
            [(0, 1), (0, 0), (2, 0), (0, 2), (0, 1), (0, 0), (2, 0), (7, 0)],
        )
        self.assertIs(type(block_sizes(row, 0)), tuple)
        self.assertEqual(block_sizes([9], 0), (0, 0))

    def test_all_short_and_drawn_rows(self):
        for row in short_rows() + long_rows():
            for place in range(len(row)):
                left, right = plain_blocks(row, place)
                self.assertEqual(block_sizes(row, place), (len(left), len(right)), (row, place))
