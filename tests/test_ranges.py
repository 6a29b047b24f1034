"""Tests of peakpeel.ranges: how the time of an entry depends on its size."""

import random
import unittest

from peakpeel.ranges import time_if, time_ranges
from peakpeel.times import times_of
from tests.plain import all_rows, drawn_rows, plain_times

FAR = 10 ** 40


def with_entry(row, place, entry):
    return row[:place] + [entry] + row[place + 1:]


class ExampleTest(unittest.TestCase):
    def test_interface(self):
        row = [5, 1, 4, 2, 3]
        self.assertEqual(
            [time_ranges(row, 1), time_ranges([7], 0), time_if(row, 1, 4), time_ranges([3, 8, 3], 1)],
            [[(1, 5, None), (2, 2, 4), (3, None, 1)], [(1, None, None)], [1, 2, 1, 3, 1], [(1, 3, None), (2, None, 2)]],
        )

    def test_by_hand(self):
        # The time 2 never occurs, as the entry beside the place has this time itself.
        self.assertEqual(time_ranges([0, 0, 7, 8, 7, 9], 5), [(1, 7, None), (3, 0, 6), (4, None, -1)])
        self.assertEqual(time_ranges([5, 5, 5], 1), [(1, 5, None), (2, None, 4)])
        self.assertEqual(time_ranges([5, 6], 0), [(1, 6, None), (2, None, 5)])
        self.assertEqual(time_ranges([-3, -10 ** 31], 0), [(1, -10 ** 31, None), (2, None, -10 ** 31 - 1)])
        self.assertEqual(time_ranges([9, 1, 2, 3], 0), [(1, 1, None), (4, None, 0)])
        self.assertEqual(time_ranges([9, 3, 2, 1], 0), [(1, 3, None), (2, 2, 2), (3, 1, 1), (4, None, 0)])


class RangesTest(unittest.TestCase):
    def check_form(self, ranges):
        """Each integer lies in exactly one range, and times ascend."""
        self.assertEqual({type(part) for part in ranges}, {tuple})
        times = [time for time, _, _ in ranges]
        self.assertEqual(times, sorted(set(times)))
        self.assertEqual((times[0], ranges[0][2], ranges[-1][1]), (1, None, None))
        for (_, low, high), (_, _, below) in zip(ranges, ranges[1:]):
            self.assertEqual(below, low - 1)
            self.assertTrue(high is None or low <= high)

    def check(self, row, place, entries):
        ranges = time_ranges(row, place)
        self.check_form(ranges)
        for entry in entries:
            known = plain_times(with_entry(row, place, entry))
            told = [
                time for time, low, high in ranges
                if (low is None or low <= entry) and (high is None or entry <= high)
            ]
            self.assertEqual(told, [known[place]], (row, place, entry))
            self.assertEqual(time_if(row, place, entry), known, (row, place, entry))

    def entries_for(self, row):
        """The integers about the entries of a row, and far ones."""
        near = [entry + step for entry in row for step in (-1, 0, 1)]
        return sorted(set(near + [min(row) - 3, max(row) + 3, -FAR, FAR, 0]))

    def test_all_short_rows(self):
        for length, below in [(1, 3), (2, 4), (3, 4), (4, 3), (5, 3), (6, 2)]:
            for row in all_rows(length, below):
                for place in range(length):
                    self.check(row, place, list(range(-2, below + 2)) + [-FAR, FAR])

    def test_every_integer_about_the_entries(self):
        chance = random.Random(71)
        for _ in range(60):
            row = [chance.randint(-9, 9) * chance.randint(1, 2) for _ in range(chance.randint(1, 12))]
            place = chance.randrange(len(row))
            self.check(row, place, list(range(min(row) - 4, max(row) + 5)) + [-FAR, FAR])

    def test_drawn_rows(self):
        chance = random.Random(72)
        for row in drawn_rows(60, 70, 73):
            for place in {0, len(row) - 1, chance.randrange(len(row))} if row else []:
                self.check(row, place, self.entries_for(row)[::5])

    def test_times_of_the_row_itself(self):
        for row in drawn_rows(30, 200, 74):
            times = times_of(row)
            for place in range(len(row)):
                ranges = time_ranges(row, place)
                self.check_form(ranges)
                told = [
                    time for time, low, high in ranges
                    if (low is None or low <= row[place]) and (high is None or row[place] <= high)
                ]
                self.assertEqual(told, [times[place]])
                self.assertEqual(time_if(row, place, row[place]), times)

    def test_the_entry_itself_does_not_count(self):
        for row in drawn_rows(20, 40, 75):
            for place in range(0, len(row), 3):
                known = time_ranges(row, place)
                for entry in (-FAR, 0, FAR):
                    self.assertEqual(time_ranges(with_entry(row, place, entry), place), known)

    def test_both_directions(self):
        for row in drawn_rows(20, 60, 76):
            for place in range(0, len(row), 3):
                self.assertEqual(time_ranges(row[::-1], len(row) - 1 - place), time_ranges(row, place))

    def test_very_long_rows(self):
        rising = list(range(1000))
        self.assertEqual(time_ranges(rising, 0), [(1, 1, None), (1000, None, 0)])
        falling = time_ranges(rising[::-1], 0)
        self.assertEqual((len(falling), falling[-1]), (1000, (1000, None, -1)))
        self.assertEqual(time_if([5] * 1000, 999, 4), [1] * 999 + [2])
        self.assertEqual(time_ranges([10 ** 50] * 999, 500), [(1, 10 ** 50, None), (2, None, 10 ** 50 - 1)])
