"""Tests of peakpeel.times: points 7 to 10."""

import itertools
import random
import unittest

from peakpeel.rows import block_sizes, peel_steps
from peakpeel.times import is_times, places_in_round, relation, rounds_needed, row_with, times_of
from tests.plain import all_rows, all_times, block_times, drawn_rows, plain_is_times, plain_times
from tests.wrong import NOT_ROWS, ROWS_NOT_TIMES


def short_rows():
    """All rows of some short lengths over a few numbers."""
    shapes = [(0, 1), (1, 3), (2, 4), (3, 4), (4, 4), (5, 4), (6, 3), (7, 2), (8, 2)]
    return [row for length, below in shapes for row in all_rows(length, below)]


class ExampleTest(unittest.TestCase):
    def test_interface(self):
        self.assertEqual(
            [times_of([5, 1, 4, 2, 3]), rounds_needed([1, 2, 3, 4]), places_in_round([5, 1, 4, 2, 3], 2),
             is_times([2, 1, 2]), is_times([1, 2, 2])],
            [[1, 3, 1, 2, 1], 4, [3], True, False],
        )
        self.assertEqual(
            [row_with([1, 3, 1, 2, 1]), relation([1, 3, 1, 2, 1], 1, 4), relation([2, 1, 2], 0, 2),
             relation([1, 2, 1], 0, 2)],
            [[2, 0, 2, 1, 2], "<=", "=", "open"],
        )

    def test_table_of_point_8(self):
        self.assertEqual(times_of([5, 1, 4, 2, 3]), [1, 3, 1, 2, 1])
        self.assertEqual(times_of([1, 2, 3]), [3, 2, 1])
        self.assertEqual(times_of([3, 3, 9]), [1, 2, 1])


class TimesTest(unittest.TestCase):
    def check(self, row):
        times = plain_times(row)
        self.assertEqual(times_of(row), times, row)
        most = max(times, default=0)
        self.assertEqual(rounds_needed(row), most, row)
        for rounds in [*range(1, most + 2), 10 ** 30]:
            places = [place for place, time in enumerate(times) if time == rounds]
            self.assertEqual(places_in_round(row, rounds), places, (row, rounds))

    def test_all_short_rows(self):
        for row in short_rows():
            self.check(row)

    def test_drawn_rows(self):
        for row in drawn_rows(400, 70, 3) + drawn_rows(20, 200, 4):
            self.check(row)

    def test_blocks_of_point_8(self):
        for row in all_rows(5, 4) + drawn_rows(150, 9, 5):
            self.assertEqual(times_of(row), block_times(row), row)

    def test_time_is_one_more_than_the_greatest_in_the_blocks(self):
        for row in drawn_rows(60, 80, 6):
            times = times_of(row)
            for place, time in enumerate(times):
                left, right = block_sizes(row, place)
                before, after = row[place - left:place], row[place + 1:place + 1 + right]
                self.assertEqual(times_of(before), times[place - left:place])
                self.assertEqual(times_of(after), times[place + 1:place + 1 + right])
                self.assertEqual(time, 1 + max(rounds_needed(before), rounds_needed(after)))

    def test_rounds_needed_is_the_number_of_steps(self):
        for row in drawn_rows(50, 70, 7):
            self.assertEqual(rounds_needed(row), len(list(peel_steps(row))) - 1)

    def test_no_entries(self):
        self.assertEqual([times_of([]), rounds_needed([]), places_in_round([], 1)], [[], 0, []])

    def test_very_long_rows(self):
        self.assertEqual(times_of(list(range(4000))), list(range(4000, 0, -1)))
        self.assertEqual(times_of([5] * 4000), [1] * 4000)
        self.assertEqual(rounds_needed([2, 1] * 2000), 2)


class IsTimesTest(unittest.TestCase):
    def test_times_of_all_short_rows(self):
        for length in range(7):
            found = all_times(length)
            for items in all_rows(length, length + 2):
                if length < 6 or max(items) < length:
                    self.assertIs(is_times(items), items in found, items)

    def test_drawn_times_and_changed_ones(self):
        chance = random.Random(8)
        for row in drawn_rows(200, 80, 9):
            times = plain_times(row)
            self.assertIs(is_times(times), True)
            self.assertTrue(plain_is_times(times))
            for place in range(len(times)):
                changed = list(times)
                changed[place] += chance.choice([-2, -1, 1, 2, 10 ** 31])
                self.assertIs(is_times(changed), plain_is_times(changed), changed)
            less = times[1:]
            self.assertIs(is_times(less), plain_is_times(less), less)

    def test_rows_that_are_no_times(self):
        for items in ROWS_NOT_TIMES:
            self.assertIs(is_times(items), False, items)

    def test_other_values(self):
        for at, value in enumerate(NOT_ROWS):
            with self.subTest(at=at):
                self.assertIs(is_times(value), False)

    def test_no_times(self):
        self.assertIs(is_times([]), True)


class RowWithTest(unittest.TestCase):
    def check(self, times):
        row = row_with(times)
        self.assertEqual(row, [max(times) - time for time in times] if times else [])
        self.assertEqual(times_of(row), times)
        self.assertEqual(plain_times(row), times)

    def test_all_short_times(self):
        for length in range(7):
            for times in all_times(length):
                self.check(times)

    def test_drawn_times(self):
        for row in drawn_rows(200, 90, 10):
            self.check(plain_times(row))


def relation_in(rows, place, other):
    """How the entries of two places stand to one another in all these rows."""
    signs = {(row[place] > row[other]) - (row[place] < row[other]) for row in rows}
    if signs == {0}:
        return "="
    if signs in ({-1}, {-1, 0}):
        return "<="
    return ">=" if signs in ({1}, {1, 0}) else "open"


class RelationTest(unittest.TestCase):
    def test_all_short_rows_with_the_same_times(self):
        for length in range(2, 7):
            rows_with = {}
            for row in all_rows(length, length):
                rows_with.setdefault(tuple(plain_times(row)), []).append(row)
            for times, rows in rows_with.items():
                for place, other in itertools.permutations(range(length), 2):
                    self.assertEqual(
                        relation(list(times), place, other), relation_in(rows, place, other), (times, place, other)
                    )

    def test_long_times(self):
        back = {"=": "=", "<=": ">=", ">=": "<=", "open": "open"}
        chance = random.Random(11)
        for row in drawn_rows(40, 100, 12) + drawn_rows(5, 400, 13):
            times = plain_times(row)
            for _ in range(100 if len(row) > 1 else 0):
                place, other = chance.sample(range(len(times)), 2)
                self.check_long(row, times, place, other, back)

    def check_long(self, row, times, place, other, back):
        told = relation(times, place, other)
        self.assertEqual(relation(times, other, place), back[told])
        between = max(times[min(place, other) + 1:max(place, other)], default=0)
        if max(times[place], times[other]) < between:
            self.assertEqual(told, "open")
        elif times[place] == times[other]:
            self.assertEqual((told, row[place]), ("=", row[other]))
        elif times[place] > times[other]:
            self.assertEqual((told, row[place] <= row[other]), ("<=", True))
        else:
            self.assertEqual((told, row[place] >= row[other]), (">=", True))

    def test_neighbours(self):
        self.assertEqual(relation([1, 1], 0, 1), "=")
        self.assertEqual(relation([2, 1], 0, 1), "<=")
        self.assertEqual(relation([1, 2], 0, 1), ">=")
