"""Tests of peakpeel.long: repeated rows."""

import random
import unittest

from peakpeel import errors
from peakpeel.long import long_left, long_needed, long_time
from peakpeel.rows import peeled
from peakpeel.times import rounds_needed, times_of
from tests.plain import all_rows, drawn_rows, plain_times

MANY = 10 ** 30


def short_rows():
    shapes = [(0, 1), (1, 2), (2, 3), (3, 3), (4, 3), (5, 2)]
    return [row for length, below in shapes for row in all_rows(length, below)]


def long_rows():
    return drawn_rows(14, 70, 91) + [list(range(70)), list(range(70, 0, -1)), [4] * 70, [1, 2] * 35]


class ExampleTest(unittest.TestCase):
    def test_interface(self):
        self.assertEqual(
            [[long_time([2, 1, 3], 2, place) for place in range(6)], long_time([2, 1, 3], 10 ** 30, 3 * 10 ** 29),
             long_left([2, 1, 3], 10 ** 30, 1), long_needed([1, 2, 3], 10 ** 30)],
            [[1, 3, 1, 2, 3, 1], 2, 1999999999999999999999999999999, 3],
        )

    def test_by_hand(self):
        # In 2 1 3 2 1 3 .. each 2 but the first one has a 3 in front of it.
        self.assertEqual([long_time([2, 1, 3], 4, place) for place in range(12)], [1, 3, 1] + [2, 3, 1] * 3)
        # In 3 1 2 3 1 2 .. each 2 but the last one has a 3 behind it.
        self.assertEqual([long_time([3, 1, 2], 4, place) for place in range(12)], [1, 3, 2] * 3 + [1, 3, 1])
        self.assertEqual([long_time([3, 1, 2], MANY, 3 * MANY - back) for back in (6, 5, 4)], [1, 3, 2])
        self.assertEqual([long_time([3, 1, 2], MANY, 3 * MANY - back) for back in (3, 2, 1)], [1, 3, 1])
        self.assertEqual([long_time([3, 2, 1], MANY, place) for place in range(6)], [1, 2, 3, 1, 2, 3])
        self.assertEqual([long_time([7], MANY, MANY - 1), long_needed([7], MANY), long_left([7], MANY, 0)], [1, 1, MANY])


class WrittenOutTest(unittest.TestCase):
    def check(self, row, copies, known):
        """The row written out has the known times."""
        for place, time in enumerate(known):
            self.assertEqual(long_time(row, copies, place), time, (row, copies, place))
        most = max(known, default=0)
        for rounds in range(most + 3):
            left = len([time for time in known if time > rounds])
            self.assertEqual(long_left(row, copies, rounds), left, (row, copies, rounds))
        self.assertEqual([long_left(row, copies, MANY), long_needed(row, copies)], [0, most])
        for place in (-1, len(known), len(known) + 1, 10 ** 60):
            with self.assertRaises(errors.InvalidPlace):
                long_time(row, copies, place)

    def test_short_rows(self):
        for row in short_rows():
            for copies in range(7):
                self.check(row, copies, plain_times(row * copies))

    def test_long_rows(self):
        for row in long_rows():
            for copies in range(7):
                self.check(row, copies, times_of(row * copies))

    def test_against_the_functions_of_rows_and_times(self):
        for row in long_rows():
            for copies in range(7):
                written = row * copies
                for rounds in range(rounds_needed(row) + 3):
                    self.assertEqual(long_left(row, copies, rounds), len(peeled(written, rounds)))
                self.assertEqual(long_needed(row, copies), rounds_needed(written))

    def test_one_copy_is_the_row(self):
        for row in short_rows() + long_rows():
            self.assertEqual([long_time(row, 1, place) for place in range(len(row))], times_of(row))
            self.assertEqual([long_needed(row, 1), long_left(row, 1, 0)], [rounds_needed(row), len(row)])


class ManyCopiesTest(unittest.TestCase):
    def check_times(self, row, copies):
        """The first copy, some between and the last one have the times that they have among five."""
        known = times_of(row * 5)
        size = len(row)
        between = [1, 2, copies // 2, copies // 3, copies - 3, copies - 2]
        for copy, known_copy in [(0, 0), (copies - 1, 4)] + [(copy, 2) for copy in between]:
            told = [long_time(row, copies, copy * size + at) for at in range(size)]
            self.assertEqual(told, known[known_copy * size:(known_copy + 1) * size], (row, copy))

    def check_left(self, row, copies):
        size = len(row)
        known = times_of(row * 5)
        parts = [(known[:size], 1), (known[2 * size:3 * size], copies - 2), (known[4 * size:], 1)]
        for rounds in [*range(max(known, default=0) + 2), 10 ** 9, MANY]:
            left = sum(many * len([time for time in times if time > rounds]) for times, many in parts)
            self.assertEqual(long_left(row, copies, rounds), left, (row, rounds))
        self.assertEqual(long_needed(row, copies), max(known, default=0))

    def test_all_rows(self):
        for row in short_rows() + long_rows():
            for copies in (MANY, 10 ** 31 - 1):
                self.check_times(row, copies)
                self.check_left(row, copies)

    def test_numbers_of_copies_beside_one_another(self):
        chance = random.Random(92)
        for row in drawn_rows(30, 12, 93):
            for copies in range(4, 12):
                self.check_times(row, copies)
                self.check_left(row, copies)
            copies = chance.randint(10 ** 25, 10 ** 31)
            self.check_left(row, copies)

    def test_edges_of_places(self):
        for row in ([7], [1, 2, 3], list(range(70))):
            last = len(row) * MANY - 1
            self.assertEqual(long_time(row, MANY, last), times_of(row * 2)[-1])
            for place in (last + 1, last + 2, -1, -last, 10 ** 100):
                with self.assertRaises(errors.InvalidPlace):
                    long_time(row, MANY, place)

    def test_no_entries(self):
        for copies in (0, 1, 2, 3, 4, MANY):
            self.assertEqual([long_left([], copies, 0), long_left([], copies, MANY), long_needed([], copies)], [0, 0, 0])
            for place in (0, 1, -1):
                with self.assertRaises(errors.InvalidPlace):
                    long_time([], copies, place)
        self.assertEqual([long_left([3, 1], 0, 0), long_left([3, 1], 0, 5), long_needed([3, 1], 0)], [0, 0, 0])

    def test_beyond_the_limits(self):
        row = [10 ** 80, -10 ** 80, 5] * 300
        copies = 10 ** 120
        self.assertEqual(long_left(row, copies, 0), 900 * copies)
        self.assertEqual(long_time(row, copies, 900 * copies - 1), times_of(row * 2)[-1])
        self.assertEqual(long_time(row, copies, 450 * copies), times_of(row * 3)[900])
        self.assertEqual(long_left(row, copies, 10 ** 120), 0)
        self.assertEqual(long_needed(list(range(900)), copies), 900)
        # What one call returns is passed back: entries left as copies, rounds or a place.
        left = long_left([1, 2, 3], MANY, 2)
        self.assertEqual(left, MANY)
        self.assertEqual(long_left([1, 2, 3], left * left, 2), MANY * MANY)
        self.assertEqual(long_time([1, 2, 3], left * left, left), plain_times([1, 2, 3] * 3)[3 + left % 3])
