"""Tests of peakpeel.orders: points 12 and 13."""

import math
import random
import unittest
from unittest import mock

from peakpeel.joins import Times
from peakpeel.orders import count_orders, count_within, is_clear, nth_order, order_number, parent_of
from peakpeel.times import times_of
from tests.plain import (
    all_orders, all_times, drawn_orders, drawn_rows, places_of, plain_is_clear, plain_parents, plain_times,
)


def full_times(highest):
    """The times of a tree in which each entry above the lowest ones has two below it."""
    times = []
    for time in range(1, highest + 1):
        times = times + [time] + times
    return times


class ExampleTest(unittest.TestCase):
    def test_interface(self):
        times = [1, 3, 1, 2, 1]
        self.assertEqual(
            [is_clear(times), is_clear([1, 1]), [parent_of(times, place) for place in range(5)], count_orders(times)],
            [True, False, [1, None, 3, 1, 3], 8],
        )
        self.assertEqual(
            [nth_order(times, 0), nth_order(times, 7), order_number([4, 0, 3, 1, 2]),
             [count_within(3, rounds) for rounds in range(4)]],
            [[1, 0, 3, 2, 4], [4, 0, 3, 1, 2], 7, [0, 0, 2, 6]],
        )

    def test_no_items(self):
        self.assertEqual([is_clear([]), count_orders([]), nth_order([], 0), order_number([])], [True, 1, [], 0])
        self.assertEqual([count_within(0, 0), count_within(0, 5), count_within(1, 0), count_within(1, 1)], [1, 1, 0, 1])
        one = [parent_of([1], 0), count_orders([1]), nth_order([1], 0), order_number([0])]
        self.assertEqual(one, [None, 1, [0], 0])


class ClearTest(unittest.TestCase):
    def test_by_hand(self):
        for times in ([1], [2, 1], [1, 2, 1], [1, 2, 3], [1, 2, 1, 3, 1, 2, 1], [2, 1, 3, 1, 2]):
            self.assertIs(is_clear(times), True, times)
        for times in ([1, 1], [2, 1, 2], [1, 2, 1, 1], [1, 2, 1, 2, 1], [2, 1, 1], [3, 2, 1, 2, 1, 3]):
            self.assertIs(is_clear(times), False, times)

    def test_clear_times_are_those_of_orders(self):
        for length in range(8):
            known = [times for times, _ in all_orders(length)]
            for times in all_times(length) if length < 7 else known:
                self.assertIs(is_clear(times), times in known, times)
                self.assertIs(is_clear(times), plain_is_clear(times), times)

    def test_long_times(self):
        for row in drawn_rows(150, 90, 51):
            times = plain_times(row)
            self.assertIs(is_clear(times), plain_is_clear(times), times)
        for order in drawn_orders(40, 40, 150, 52):
            times = plain_times(order)
            self.assertIs(is_clear(times), True)
            self.assertIs(is_clear(times + times), False)
            place = times.index(1)
            self.assertIs(is_clear(times[:place] + [1] + times[place:]), False)


class ParentTest(unittest.TestCase):
    def check(self, order):
        times = plain_times(order)
        told = [parent_of(times, place) for place in range(len(times))]
        self.assertEqual(told, plain_parents(order), order)

    def test_all_orders(self):
        for length in range(7):
            for times, orders in all_orders(length):
                for order in orders:
                    self.check(order)

    def test_drawn_orders(self):
        for order in drawn_orders(30, 7, 150, 53):
            self.check(order)

    def test_rows_of_different_entries(self):
        for row in ([10 ** 31, -10 ** 31, 5, 0, 7], [-1, -2, -3], [4, 40, 400, 3]):
            self.check(row)


class NumberTest(unittest.TestCase):
    def test_all_orders(self):
        for length in range(7):
            for times, orders in all_orders(length):
                self.assertEqual(count_orders(times), len(orders), times)
                self.assertEqual([nth_order(times, number) for number in range(len(orders))], orders, times)
                self.assertEqual([order_number(order) for order in orders], list(range(len(orders))), times)

    def test_places_ascend_not_the_orders(self):
        orders = [nth_order([1, 3, 1, 2, 1], number) for number in range(8)]
        self.assertEqual([places_of(order) for order in orders], sorted([places_of(order) for order in orders]))
        self.assertNotEqual(orders, sorted(orders))

    def check_long(self, times, numbers):
        count = count_orders(times)
        for number in numbers:
            one = nth_order(times, number)
            self.assertEqual(sorted(one), list(range(len(times))))
            self.assertEqual((times_of(one), order_number(one)), (times, number))
            if number + 1 < count:
                two = nth_order(times, number + 1)
                self.assertEqual(order_number(two), number + 1)
                self.assertLess(places_of(one), places_of(two))

    def test_drawn_orders(self):
        chance = random.Random(54)
        for order in drawn_orders(25, 40, 100, 55):
            times = plain_times(order)
            self.assertEqual(nth_order(times, order_number(order)), order)
            count = count_orders(times)
            self.check_long(times, [0, count - 1, count // 2, chance.randrange(count), chance.randrange(count)])

    def test_counts_of_long_times(self):
        self.assertEqual(count_orders(list(range(90, 0, -1))), 1)
        self.assertEqual(nth_order(list(range(90, 0, -1)), 0), list(range(90)))
        # Under the root stand two paths that can be mixed in any way.
        paths = list(range(1, 61)) + [61] + list(range(60, 0, -1))
        self.assertEqual(count_orders(paths), math.comb(120, 60))
        self.assertEqual(nth_order(paths, 0), list(range(60, 0, -1)) + [0] + list(range(61, 121)))
        self.assertEqual(nth_order(paths, math.comb(120, 60) - 1), list(range(120, 60, -1)) + [0] + list(range(1, 61)))

    def test_more_than_120_items(self):
        times = full_times(7)
        self.assertEqual(len(times), 127)
        families = math.prod([(2 ** time - 1) ** (2 ** (7 - time)) for time in range(1, 8)])
        count = math.factorial(127) // families
        self.assertEqual(count_orders(times), count)
        self.check_long(times, [0, 1, 10 ** 99 + 7, 10 ** 100 - 1, count - 2, count - 1])
        self.assertEqual(nth_order(times, 0)[63], 0)

    def test_joined_times(self):
        one = Times(full_times(5))
        for _ in range(3):
            one = one | one
        times = one.listed
        self.assertEqual(len(times), 255)
        self.assertIs(is_clear(times), True)
        self.check_long(times, [0, 10 ** 100, count_orders(times) - 1])
        self.assertEqual([parent_of(times, place) for place in (127, 63, 191, 0)], [None, 127, 127, 1])
        self.assertIs(is_clear((one * 2).listed), False)
        order = drawn_orders(1, 600, 600, 56)[0]
        self.assertEqual(nth_order(times_of(order), order_number(order)), order)


class WithinTest(unittest.TestCase):
    def test_against_listed_orders(self):
        for length in range(8):
            greatest = [(max(times, default=0), len(orders)) for times, orders in all_orders(length)]
            for rounds in range(length + 3):
                known = sum([many for time, many in greatest if time <= rounds])
                self.assertEqual(count_within(length, rounds), known, (length, rounds))

    def test_all_orders_are_within_their_length(self):
        for length in range(41):
            for rounds in (length, length + 1, 41, 10 ** 31, 10 ** 60):
                self.assertEqual(count_within(length, rounds), math.factorial(length))

    def test_few_and_many_rounds(self):
        for length in range(1, 41):
            # The highest trees are paths: each entry but the last is the least or none behind it.
            self.assertEqual(count_within(length, length - 1), math.factorial(length) - 2 ** (length - 1))
            needed = length.bit_length()
            self.assertEqual(count_within(length, needed - 1), 0)
            self.assertGreater(count_within(length, needed), 0)
        for highest in range(1, 6):
            self.assertEqual(count_within(2 ** highest - 1, highest), count_orders(full_times(highest)))
            self.assertEqual(count_within(2 ** highest, highest), 0)

    def test_by_the_place_of_the_least(self):
        for length in (9, 17, 28, 40):
            for rounds in range(1, length + 1):
                known = sum([
                    math.comb(length - 1, front) * count_within(front, rounds - 1)
                    * count_within(length - 1 - front, rounds - 1)
                    for front in range(length)
                ])
                self.assertEqual(count_within(length, rounds), known)

    def test_counts_are_kept(self):
        count_within(0, 0)
        with mock.patch("peakpeel.orders.Heights", side_effect=AssertionError):
            self.assertEqual([count_within(3, rounds) for rounds in range(4)], [0, 0, 2, 6])
            self.assertEqual(count_within(40, 39), math.factorial(40) - 2 ** 39)
