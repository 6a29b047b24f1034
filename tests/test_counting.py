"""Tests of peakpeel.counting: point 11."""

import itertools
import random
import unittest
from unittest import mock

from peakpeel.counting import count_times, count_with, nth_times, times_number, walk_times
from peakpeel.times import is_times, times_of
from tests.plain import all_times, counts_by_series, drawn_rows, sequence_key


def written(word):
    return [int(digit) for digit in word]


class ExampleTest(unittest.TestCase):
    def test_interface(self):
        self.assertEqual(
            [[count_times(length) for length in range(4)], [count_with(3, greatest) for greatest in range(5)],
             list(walk_times(2))],
            [[1, 1, 3, 9], [0, 1, 4, 4, 0], [[1, 1], [2, 1], [1, 2]]],
        )
        self.assertEqual([nth_times(3, 1), times_number([2, 1, 3]), times_number([1, 1, 1])], [[2, 1, 2], 7, 0])

    def test_by_hand_of_point_11(self):
        words = ["111", "212", "211", "121", "112", "321", "312", "213", "123"]
        self.assertEqual(list(walk_times(3)), [written(word) for word in words])
        self.assertEqual([nth_times(3, number) for number in range(9)], [written(word) for word in words])
        self.assertEqual([times_number(written(word)) for word in words], list(range(9)))

    def test_number_of_the_desk(self):
        self.assertEqual(times_number(times_of([1, 4, 2, 3])), 13)


class ShortTest(unittest.TestCase):
    def test_against_all_times(self):
        for length in range(7):
            every = all_times(length)
            self.assertEqual(list(walk_times(length)), every)
            self.assertEqual(count_times(length), len(every))
            self.assertEqual([nth_times(length, number) for number in range(len(every))], every)
            self.assertEqual([times_number(times) for times in every], list(range(len(every))))
            for most in range(41):
                known = len([times for times in every if max(times, default=0) == most])
                self.assertEqual(count_with(length, most), known, (length, most))

    def test_walks_are_in_sequence(self):
        for length in (7, 8):
            every = list(walk_times(length))
            keys = [sequence_key(times) for times in every]
            self.assertEqual(keys, sorted(keys))
            self.assertEqual(len({tuple(times) for times in every}), count_times(length))
            self.assertEqual([times for times in every if not is_times(times)], [])
            self.assertEqual([times_number(times) for times in every[::17]], list(range(0, len(every), 17)))

    def test_no_items(self):
        self.assertEqual([count_times(0), count_with(0, 0), count_with(0, 1), count_with(1, 0)], [1, 1, 0, 0])
        self.assertEqual([nth_times(0, 0), times_number([]), list(walk_times(0))], [[], 0, [[]]])


class LongTest(unittest.TestCase):
    def test_counts_against_series(self):
        counts = counts_by_series(40)
        for length in range(41):
            self.assertEqual(count_times(length), sum(row[length] for row in counts))
        for length in (1, 7, 20, 33, 39, 40):
            self.assertEqual([count_with(length, most) for most in range(41)], [row[length] for row in counts])

    def test_edges_of_40_items(self):
        self.assertEqual([count_with(40, 0), count_with(40, 1), count_with(40, 40)], [0, 1, 2 ** 39])
        self.assertEqual(nth_times(40, 0), [1] * 40)
        self.assertEqual(nth_times(40, count_times(40) - 1), list(range(1, 41)))
        self.assertEqual(times_number(list(range(1, 41))), count_times(40) - 1)
        self.assertEqual(times_number([1] * 40), 0)

    def test_first_and_last_with_each_greatest_time(self):
        number = 0
        for most in range(1, 41):
            self.assertEqual(max(nth_times(40, number)), most)
            number += count_with(40, most)
            self.assertEqual(max(nth_times(40, number - 1)), most)
        self.assertEqual(number, count_times(40))

    def test_round_trips_from_numbers(self):
        chance = random.Random(21)
        for length in [40] * 25 + list(range(7, 40, 3)):
            number = chance.randrange(count_times(length) - 1)
            one, two = nth_times(length, number), nth_times(length, number + 1)
            self.assertTrue(is_times(one))
            self.assertEqual(len(one), length)
            self.assertEqual([times_number(one), times_number(two)], [number, number + 1])
            self.assertLess(sequence_key(one), sequence_key(two))

    def test_round_trips_from_rows(self):
        for row in drawn_rows(60, 40, 22):
            times = times_of(row)
            self.assertEqual(nth_times(len(times), times_number(times)), times)

    def test_walk_finds_items_one_by_one(self):
        first = list(itertools.islice(walk_times(40), 30))
        self.assertEqual(first, [nth_times(40, number) for number in range(30)])
        self.assertEqual(first[0], [1] * 40)
        keys = [sequence_key(times) for times in first]
        self.assertEqual(keys, sorted(keys))


class KeptTest(unittest.TestCase):
    """What takes long is worked out once, whatever is asked for."""

    def test_tables_are_kept(self):
        count_times(0)
        with mock.patch("peakpeel.counting.Tables", side_effect=AssertionError):
            for length in range(41):
                self.assertEqual(times_number(nth_times(length, count_times(length) // 2)), count_times(length) // 2)
            self.assertEqual(len(list(walk_times(5))), count_times(5))
            self.assertEqual(count_with(40, 40), 2 ** 39)

    def test_answers_that_are_changed(self):
        for length in range(9):
            for number in range(0, count_times(length), 50):
                known = nth_times(length, number)
                known_again = list(known)
                known.append(99)
                known[0] = 99
                self.assertEqual(nth_times(length, number), known_again)
                self.assertEqual(times_number(known_again), number)
        for times in walk_times(6):
            times.clear()
        self.assertEqual(list(walk_times(6)), all_times(6))

    def test_long_runs(self):
        # Neighbours with each greatest time of each length, numbered back.
        for length in range(1, 41):
            number = 0
            for most in range(1, length + 1):
                number += count_with(length, most)
                around = range(number - 1, min(number + 1, count_times(length)))
                found = [nth_times(length, near) for near in around]
                self.assertEqual([times_number(times) for times in found], list(around))
                self.assertEqual([max(times) for times in found], [most, most + 1][:len(around)])
