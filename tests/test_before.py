"""Tests of peakpeel.before: the rows ahead of a round."""

import functools
import itertools
import math
import random
import unittest

from peakpeel.before import count_before, rows_before
from peakpeel.errors import TooLarge
from peakpeel.rows import peeled
from tests.plain import all_rows, drawn_rows, plain_rows

MANY = 10 ** 31


@functools.cache
def rows_by_next(length, below):
    """All rows of a length over the numbers below one, by what one round leaves of them."""
    found = {}
    for row in all_rows(length, below):
        left = plain_rows(row)[1] if row else []
        found.setdefault(tuple(left), []).append(tuple(row))
    return found


def count_by_filled_gaps(row, length, below):
    """The number of rows before a row, by which gaps have peaks and by whether these are high.

    So many gaps with peaks can share the peaks of a row in as many ways as there are compositions.
    """
    peaks = length - len(row)
    if peaks < 0 or [entry for entry in row if not 0 <= entry < below]:
        return 0
    total = 0
    for choice in itertools.product("-lh", repeat=len(row) + 1):
        filled = len(row) + 1 - choice.count("-")
        shares = math.comb(peaks - 1, filled - 1) if filled > 0 and peaks > 0 else int(filled == peaks)
        total += shares * ways_of_choice(row, below, choice)
    return total


def ways_of_choice(row, below, choice):
    ways = 1
    walls = []
    for at, kind in enumerate(choice):
        beside = row[max(at - 1, 0):at + 1] if at > 0 else row[:1]
        low = max(beside, default=0)
        walls.append((kind, low))
        if kind == "h":
            ways *= below - 1 - low
    for place, entry in enumerate(row):
        if not is_hidden(row, place, entry, walls[place], -1) and not is_hidden(row, place, entry, walls[place + 1], 1):
            return 0
    return ways


def is_hidden(row, place, entry, wall, step):
    """Whether the neighbour of an entry on one side is greater: a peak, or the next entry of the row."""
    kind, low = wall
    if kind == "h":
        return True
    if kind == "l":
        return low > entry
    return 0 <= place + step < len(row) and row[place + step] > entry


class ExampleTest(unittest.TestCase):
    def test_interface(self):
        self.assertEqual(
            [count_before([], 2, 5), count_before([1], 2, 4), rows_before([1], 3, 3), count_before([0, 0], 2, 9),
             count_before([0], 3, 10 ** 30) > 10 ** 60],
            [5, 4, [[1, 1, 2], [1, 2, 2], [2, 1, 1], [2, 1, 2], [2, 2, 1]], 0, True],
        )

    def test_no_entries(self):
        # One round leads from the row without entries to itself.
        self.assertEqual([count_before([], 0, 3), rows_before([], 0, 1)], [1, [[]]])
        self.assertEqual([count_before([], 40, MANY), rows_before([], 3, 2)], [MANY, [[0, 0, 0], [1, 1, 1]]])
        self.assertEqual([count_before([0], 0, 3), rows_before([0], 0, 3)], [0, []])

    def test_rows_that_no_row_is_before(self):
        for row, length, below in [
            ([1], 1, 5), ([1, 2], 1, 5), ([-1], 3, 5), ([5], 3, 5), ([4], 3, 5), ([2, 7, 2], 9, 7), ([0, 0], 5, 1),
            ([1, -1], 9, 5), ([3] * 70, 40, 9), (list(range(41)), 40, 99), ([MANY], 40, MANY), ([0], 40, 1),
        ]:
            self.assertEqual(count_before(row, length, below), 0, (row, length, below))
            self.assertEqual(rows_before(row, length, below), [], (row, length, below))


class ShortTest(unittest.TestCase):
    def test_all_short_rows(self):
        shapes = [(length, below) for length in range(6) for below in range(1, 6 if length < 5 else 5)]
        for length, below in shapes + [(6, 3), (7, 2), (7, 3), (8, 2)]:
            found = rows_by_next(length, below)
            for size in range(length + 1):
                for row in all_rows(size, below + 1) if size < 5 else [list(left) for left in found]:
                    known = [list(before) for before in found.get(tuple(row), [])]
                    self.assertEqual(count_before(row, length, below), len(known), (row, length, below))
                    self.assertEqual(rows_before(row, length, below), known, (row, length, below))

    def test_every_row_is_before_one(self):
        for length, below in [(4, 6), (6, 4), (9, 2)]:
            lefts = rows_by_next(length, below)
            self.assertEqual(sum([count_before(list(left), length, below) for left in lefts]), below ** length)


class LongTest(unittest.TestCase):
    def rows(self):
        chance = random.Random(61)
        for _ in range(120):
            size = chance.randint(0, 6)
            below = chance.choice([1, 2, 3, 5, 10 ** 30, MANY])
            row = [chance.randrange(min(below, chance.choice([2, 4, MANY]))) for _ in range(size)]
            yield row, chance.randint(size, 40), below

    def test_counts_against_filled_gaps(self):
        for row, length, below in self.rows():
            known = count_by_filled_gaps(row, length, below)
            self.assertEqual(count_before(row, length, below), known, (row, length, below))

    def test_counts_of_one_shape(self):
        # Behind a falling row, or ahead of it, each entry has a greater neighbour but the first.
        for size in range(1, 39):
            row = list(range(size, 0, -1))
            below = size + 1 + 10 ** 30
            self.assertEqual(count_before(row, size + 1, below), 10 ** 30 * 2)
        # Of equal entries each one needs a greater peak, and a peak stands beside two of them.
        for size in range(1, 27):
            known = 0 if size % 2 else (10 ** 9) ** (size // 2)
            self.assertEqual(count_before([7] * size, size + size // 2, 8 + 10 ** 9), known)

    def test_counts_do_not_depend_on_the_direction(self):
        for row, length, below in self.rows():
            self.assertEqual(count_before(row, length, below), count_before(row[::-1], length, below))

    def check_listed(self, row, length, below):
        count = count_before(row, length, below)
        if count > 1000:
            with self.assertRaises(TooLarge) as caught:
                rows_before(row, length, below)
            self.assertEqual(caught.exception.limit, 1000)
            return False
        rows = rows_before(row, length, below)
        self.assertEqual(len(rows), count)
        self.assertEqual(len({tuple(before) for before in rows}), count)
        self.assertEqual(rows, sorted(rows))
        for before in rows:
            self.assertEqual(len(before), length)
            self.assertTrue(0 <= min(before, default=0) and max(before, default=0) < below)
            self.assertEqual(peeled(before, 1), row)
        return count > 0

    def test_listed_rows(self):
        chance = random.Random(62)
        listed = 0
        for drawn in drawn_rows(150, 37, 63):
            least = min(drawn, default=0)
            row = [entry - least for entry in drawn]
            for more in (1, 2, 3):
                below = max(row, default=0) + chance.randint(1, 6)
                listed += self.check_listed(row, len(row) + more, below)
            after = peeled(row, 1)
            self.assertGreater(count_before(after, len(row), below), 0)
            listed += self.check_listed(after, len(row), below)
        self.assertGreater(listed, 30)

    def test_great_numbers(self):
        row = [MANY - 3, 5, MANY - 4]
        rows = rows_before(row, 5, MANY)
        self.assertEqual(len(rows), count_before(row, 5, MANY))
        self.assertIn([MANY - 1, MANY - 3, 5, MANY - 4, MANY - 3], rows)
        self.check_listed(row, 5, MANY)
        self.check_listed(row, 4, MANY)
        self.check_listed(row, 6, MANY)

    def test_1000_and_1001_rows(self):
        for below in (1000, 1001):
            self.check_listed([], 1, below)
            self.check_listed([], 40, below)
        self.assertEqual(rows_before([], 2, 1000), [[entry, entry] for entry in range(1000)])
        self.assertEqual(len(rows_before([0], 2, 501)), 1000)
        for length, below in [(1, 1001), (40, 1001), (7, MANY)]:
            with self.assertRaises(TooLarge):
                rows_before([], length, below)
        with self.assertRaises(TooLarge):
            rows_before([0], 2, 502)
        counts = [count_before([], 1, 1000), count_before([0], 2, 501), count_before([0], 2, 502)]
        self.assertEqual(counts, [1000, 1000, 1002])

    def test_few_rows_among_many_beginnings(self):
        self.assertEqual(rows_before([7] * 26, 39, 9), [[7, 8, 7] * 13])
        self.assertEqual(rows_before([7] * 26, 38, 10 ** 30), [])
        self.assertEqual(len(rows_before([7] * 18, 27, 10)), 2 ** 9)
        self.assertEqual(rows_before([3] * 19 + [5] * 20, 40, 5), [])
        falling = list(range(38, 0, -1))
        self.assertEqual(rows_before(falling, 39, 40), [[38, 39] + falling[1:], [39] + falling])
