"""Tests over the whole program: its parts give the same answers, and take each other's results."""

import itertools
import random
import unittest

from peakpeel.before import count_before, rows_before
from peakpeel.counting import count_times, count_with, nth_times, times_number, walk_times
from peakpeel.desk import Desk
from peakpeel.errors import PeakError
from peakpeel.joins import Times
from peakpeel.long import long_left, long_needed, long_time
from peakpeel.orders import count_orders, count_within, is_clear, nth_order, order_number
from peakpeel.ranges import time_if, time_ranges
from peakpeel.ridges import Ridge, SumRidge
from peakpeel.rows import block_sizes, is_row, peaks_of, peel_steps, peeled
from peakpeel.texts import read_row, show_row
from peakpeel.times import is_times, places_in_round, rounds_needed, row_with, times_of
from tests.interface import INTERFACE
from tests.plain import all_rows, drawn_entries, drawn_orders, drawn_rows


def rows_to_try():
    short = [row for length in range(5) for row in all_rows(length, 3)]
    return short + drawn_rows(40, 60, 131) + drawn_entries(20, 60, 132)


def desk_with(row):
    desk = Desk()
    desk.execute("row " + show_row(row))
    return desk


class SameAnswersTest(unittest.TestCase):
    def test_one_row(self):
        for row in rows_to_try():
            times = times_of(row)
            ridge, desk = Ridge(row), desk_with(row)
            self.assertEqual([ridge.row_now, ridge.times_now, len(ridge)], [row, times, len(row)])
            self.assertEqual([desk.execute("show"), desk.execute("times")], [show_row(row), show_row(times)])
            needed = rounds_needed(row)
            self.assertEqual([Times(times).highest, long_needed(row, 1), max(times, default=0)], [needed] * 3)
            self.assertEqual([desk.execute("needed"), len(list(peel_steps(row))) - 1], [str(needed), needed])
            self.assertEqual([long_time(row, 1, place) for place in range(len(row))], times)
            self.assertEqual([long_time(row, 10 ** 30, place) for place in range(len(row))], times_of(row * 2)[:len(row)])
            self.assertEqual(peaks_of(row), places_in_round(row, 1))
            if len(row) <= 40:
                self.assertEqual(desk.execute("number"), str(times_number(times)))

    def test_rounds(self):
        for row in rows_to_try():
            steps = list(peel_steps(row))
            joined = Times(times_of(row))
            self.assertEqual(Ridge(row).try_peel(*range(len(steps))), steps)
            ridge, desk = SumRidge(row), desk_with(row)
            for rounds, left in enumerate(steps):
                self.assertEqual([peeled(row, rounds), ridge.row_now, desk.execute("show")], [left, left, show_row(left)])
                self.assertEqual([joined(rounds), long_left(row, 1, rounds)], [len(left), len(left)])
                self.assertEqual(ridge.sum_now, sum(row) - sum(left))
                vanish = len(places_in_round(row, rounds + 1))
                self.assertEqual([ridge.peel(), desk.execute("peel 1")], [vanish, str(vanish)])
            other, other_desk = SumRidge(row), desk_with(row)
            for rounds in (2, 0, len(row) + 1):
                self.assertEqual(str(other.peel(rounds=rounds)), other_desk.execute(f"peel {rounds}"))
                self.assertEqual(other_desk.execute("show"), show_row(other.row_now))
            self.assertEqual([other.row_now, other.sum_now], [[], sum(row)])

    def test_entries_that_change(self):
        chance = random.Random(133)
        for row in [row for row in rows_to_try() if row]:
            place = chance.randrange(len(row))
            ridge, desk = Ridge(row), desk_with(row)
            ranges = time_ranges(row, place)
            words = [":".join(["*" if part is None else str(part) for part in item]) for item in ranges]
            self.assertEqual(desk.execute(f"ranges {place}").split(" "), words)
            for time, low, high in ranges:
                # The bounds are passed back as entries.
                for entry in [bound for bound in (low, high) if bound is not None] or [0]:
                    known = time_if(row, place, entry)
                    ridge.change(place, entry)
                    self.assertEqual([known[place], ridge.times_now], [time, known])
                    if abs(entry) < 10 ** 31:
                        desk.execute(f"change {place} {entry}")
                        self.assertEqual(desk.execute("times"), show_row(known))

    def test_blocks(self):
        for row in rows_to_try():
            times = times_of(row)
            for place in range(len(row)):
                left, right = block_sizes(row, place)
                blocks = [Ridge(row[place - left:place]).times_now, Ridge(row[place + 1:place + 1 + right]).times_now]
                self.assertEqual(blocks, [times[place - left:place], times[place + 1:place + 1 + right]])
                self.assertEqual(times[place], 1 + max(Times(blocks[0] + blocks[1]).highest, 0))

    def test_joined_and_repeated_rows(self):
        for row in [row for row in rows_to_try() if row]:
            one = Times(times_of(row))
            joined = row + [min(row) - 1] + row
            self.assertEqual((one | one).listed, times_of(joined))
            if len(joined) <= 60:
                self.assertEqual(Ridge(joined).times_now, (one | one).listed)
            self.assertEqual([long_time(joined, 1, place) for place in range(len(joined))], (one | one).listed)
            self.assertEqual((one * 3)(1), 3 * len(Ridge(row).try_peel(1)[0]))

    def test_orders_on_ridges(self):
        for order in drawn_orders(15, 1, 60, 134):
            times = Ridge(order).times_now
            self.assertTrue(is_clear(times))
            number = order_number(order)
            self.assertEqual(nth_order(times, number), order)
            self.assertEqual(desk_with(nth_order(times, count_orders(times) - 1)).execute("times"), show_row(times))

    def test_rows_before_a_ridge(self):
        for row in [[], [1], [0, 1], [2, 0], [1, 1]]:
            found = rows_before(row, 4, 4)
            self.assertEqual(len(found), count_before(row, 4, 4))
            for before in found:
                ridge = Ridge(before)
                ridge.peel()
                self.assertEqual(ridge, Ridge(row))


class PassedBackTest(unittest.TestCase):
    def test_rows_and_times(self):
        for row in rows_to_try():
            times = times_of(row)
            self.assertEqual(times_of(row_with(times)), times)
            self.assertEqual(Ridge(row_with(times)).times_now, times)
            self.assertEqual(Times(Ridge(row).times_now).listed, times)
            self.assertTrue(is_times(Ridge(row).times_now) and is_row(Ridge(row).row_now))
            # Times are rows, too.
            self.assertEqual(Ridge(times).row_now, times)
            self.assertEqual(Ridge(Ridge(row).row_now), SumRidge(row))
            for step in peel_steps(row):
                self.assertEqual(Ridge.read(show_row(step)).row_now, step)

    def test_texts_of_a_desk(self):
        for row in rows_to_try():
            desk = desk_with(row)
            for command in ("show", "times"):
                told = desk.execute(command)
                self.assertEqual(desk_with(read_row(told)).execute("show"), told)
                other = Desk()
                self.assertEqual([other.execute("row " + told), other.execute("show")], ["ok", told])
            if row:
                entry = desk.execute("take 0")
                if abs(int(entry)) < 10 ** 31:
                    desk.execute("put 0 " + entry)
                    self.assertEqual(desk.execute("show"), show_row(row))
            # Numbers of entries are places, and numbers of rounds.
            many = desk.execute("peel " + desk.execute("needed"))
            self.assertEqual(desk.execute("show"), "-")
            self.assertEqual(desk.execute("peel " + many), "0")

    def test_numbers_of_a_desk(self):
        for length in range(5):
            for number, times in enumerate(walk_times(length)):
                desk = desk_with(row_with(times))
                self.assertEqual(desk.execute("number"), str(number))
                self.assertEqual(nth_times(length, int(desk.execute("number"))), times)
        chance = random.Random(135)
        for length in (10, 39, 40):
            for _ in range(10):
                number = chance.randrange(count_times(length))
                ridge = Ridge(row_with(nth_times(length, number)))
                self.assertEqual(times_number(ridge.times_now), number)
                self.assertEqual(desk_with(ridge.row_now).execute("number"), str(number))

    def test_great_results(self):
        great = count_times(40) ** 3
        self.assertEqual(long_left([1, 2], great, 1), great)
        self.assertEqual(long_time([1, 2], long_left([1, 2], great, 1), great), times_of([1, 2] * 3)[2 + great % 2])
        ridge = SumRidge([10 ** 31 - 1] * 60)
        ridge.peel()
        total = ridge.sum_now
        ridge.put(0, total)
        ridge.put(0, -total)
        self.assertEqual([read_row(show_row(ridge.row_now)), ridge.times_now], [[-total, total], [2, 1]])
        self.assertEqual(desk_with(ridge.row_now).execute("ranges 0"), f"1:{total}:* 2:*:{total - 1}")
        times = times_of(drawn_orders(1, 70, 70, 136)[0])
        self.assertEqual(len(nth_order(times, count_orders(times) - 1)), 70)
        self.assertEqual(sum(count_with(40, most) for most in range(41)), count_times(40))
        self.assertEqual(peeled([3, 1, 2], count_within(40, 40)), [])
        copies, place = count_within(40, 40), count_within(40, 39)
        self.assertEqual(long_time([3, 1, 2], copies, place), times_of([3, 1, 2] * 3)[3 + place % 3])
        self.assertEqual(SumRidge([3, 1, 2]).try_peel(count_within(40, 40), 0), [[], [3, 1, 2]])


class WholeProgramTest(unittest.TestCase):
    def test_all_modules_have_what_the_interface_lists(self):
        for stem, parts in INTERFACE.items():
            module = __import__(f"peakpeel.{stem}", fromlist=["*"])
            for name in parts:
                self.assertEqual(getattr(module, name).__module__, f"peakpeel.{stem}")

    def test_nothing_is_kept_between_objects(self):
        """Calls of one object and errors of it have no effect on another one, in any sequence."""
        row = [5, 1, 4, 2, 3]
        known = [Ridge(row).times_now, desk_with(row).execute("times"), Times([1, 2]).listed]
        for uses in itertools.permutations([
            lambda: Ridge(row).put(9, 9), lambda: Desk().execute("show"), lambda: Ridge([1] * 61), lambda: Ridge().undo(),
            lambda: Times([1, 2]) * 999, lambda: SumRidge(row).take(None),
        ], 3):
            for use in uses:
                with self.assertRaises(PeakError):
                    use()
            self.assertEqual([Ridge(row).times_now, desk_with(row).execute("times"), Times([1, 2]).listed], known)
