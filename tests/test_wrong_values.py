"""Tests of the errors of all functions: point 5. Those of the classes have files of their own."""

import copy
import itertools
import types
import unittest

from peakpeel import errors
from peakpeel.before import count_before, rows_before
from peakpeel.counting import count_times, count_with, nth_times, times_number, walk_times
from peakpeel.long import long_left, long_needed, long_time
from peakpeel.orders import count_orders, count_within, is_clear, nth_order, order_number, parent_of
from peakpeel.ranges import time_if, time_ranges
from peakpeel.rows import block_sizes, is_row, peaks_of, peel_steps, peeled
from peakpeel.texts import read_row, show_row
from peakpeel.times import is_times, places_in_round, relation, rounds_needed, row_with, times_of
from tests.interface import INTERFACE
from tests.plain import drawn_orders, drawn_rows, plain_times
from tests.wrong import NOT_INTEGERS, NOT_ROWS, NOT_TEXTS, ROWS_NOT_ORDERS, ROWS_NOT_TIMES, WRONG_TEXTS

ROW = [5, 1, 4, 2, 3]
TIMES = [1, 3, 1, 2, 1]

# For each kind of parameter a valid value, its wrong ones and their error.
ROW_KIND = (ROW, NOT_ROWS, errors.InvalidRow)
TIMES_KIND = (TIMES, NOT_ROWS + ROWS_NOT_TIMES, errors.InvalidTimes)
PLACE_KIND = (2, NOT_INTEGERS + [-1, -5, 5, 6, 10 ** 30, -10 ** 30], errors.InvalidPlace)
OTHER_KIND = (4, PLACE_KIND[1], errors.InvalidPlace)
ROUNDS_KIND = (1, NOT_INTEGERS + [-1, -10 ** 30], errors.InvalidRounds)
ROUND_KIND = (1, NOT_INTEGERS + [0, -1, -10 ** 30], errors.InvalidRounds)
LENGTH_KIND = (3, NOT_INTEGERS + [-1, 41, 42, 10 ** 30, -10 ** 30], errors.InvalidNumber)
NUMBER_KIND = (3, NOT_INTEGERS + [-1, -9, 9, 10, 10 ** 30], errors.InvalidNumber)

ORDER_NUMBER_KIND = (3, NOT_INTEGERS + [-1, -8, 8, 9, 10 ** 30], errors.InvalidNumber)
ORDER_KIND = ([4, 0, 3, 1, 2], NOT_ROWS + ROWS_NOT_ORDERS, errors.NotOrder)
BELOW_KIND = (4, NOT_INTEGERS + [0, -1, -10 ** 30], errors.InvalidNumber)
ENTRY_KIND = (-6, NOT_INTEGERS, errors.InvalidEntry)
COPIES_KIND = (3, NOT_INTEGERS + [-1, -3, -10 ** 30], errors.InvalidNumber)
# A place of three copies, which may be none of the row.
LONG_PLACE_KIND = (14, NOT_INTEGERS + [-1, -15, 15, 16, 10 ** 100, -10 ** 100], errors.InvalidPlace)
TEXT_KIND = ("5 1 -4", NOT_TEXTS + WRONG_TEXTS, errors.InvalidText)

FUNCTIONS = [
    (peaks_of, [ROW_KIND]),
    (peeled, [ROW_KIND, ROUNDS_KIND]),
    (peel_steps, [ROW_KIND]),
    (block_sizes, [ROW_KIND, PLACE_KIND]),
    (times_of, [ROW_KIND]),
    (rounds_needed, [ROW_KIND]),
    (places_in_round, [ROW_KIND, ROUND_KIND]),
    (row_with, [TIMES_KIND]),
    (relation, [TIMES_KIND, PLACE_KIND, OTHER_KIND]),
    (count_times, [LENGTH_KIND]),
    (count_with, [LENGTH_KIND, LENGTH_KIND]),
    (nth_times, [LENGTH_KIND, NUMBER_KIND]),
    (times_number, [TIMES_KIND]),
    (walk_times, [LENGTH_KIND]),
    (is_clear, [TIMES_KIND]),
    (parent_of, [TIMES_KIND, PLACE_KIND]),
    (count_orders, [TIMES_KIND]),
    (nth_order, [TIMES_KIND, ORDER_NUMBER_KIND]),
    (order_number, [ORDER_KIND]),
    (count_within, [LENGTH_KIND, ROUNDS_KIND]),
    (count_before, [ROW_KIND, LENGTH_KIND, BELOW_KIND]),
    (rows_before, [ROW_KIND, LENGTH_KIND, BELOW_KIND]),
    (time_ranges, [ROW_KIND, PLACE_KIND]),
    (time_if, [ROW_KIND, PLACE_KIND, ENTRY_KIND]),
    (long_time, [ROW_KIND, COPIES_KIND, LONG_PLACE_KIND]),
    (long_left, [ROW_KIND, COPIES_KIND, ROUNDS_KIND]),
    (long_needed, [ROW_KIND, COPIES_KIND]),
    (show_row, [ROW_KIND]),
    (read_row, [TEXT_KIND]),
]
GENERATORS = [peel_steps, walk_times]
# These return an answer for any value.
NEVER_WRONG = [is_row, is_times]


def answer(function, arguments):
    """The function's answer, or the first item of a generator."""
    told = function(*arguments)
    return next(told) if function in GENERATORS else told


class WrongTest(unittest.TestCase):
    def test_all_functions_are_here(self):
        known = sorted(name for parts in INTERFACE.values() for name, parameters in parts.items() if parameters)
        found = sorted(function.__name__ for function in [function for function, _ in FUNCTIONS] + NEVER_WRONG)
        self.assertEqual(found, known)

    def check(self, function, arguments, error):
        with self.assertRaises(errors.PeakError) as caught:
            answer(function, arguments)
        self.assertIs(type(caught.exception), error)
        return caught.exception

    def test_each_wrong_value_alone(self):
        for function, kinds in FUNCTIONS:
            for at, (_, wrong_values, error) in enumerate(kinds):
                arguments = [kind[0] for kind in kinds]
                for number, wrong in enumerate(wrong_values):
                    with self.subTest(function=function.__name__, at=at, number=number):
                        arguments[at] = wrong
                        self.check(function, arguments, error)

    def test_the_first_of_several_wrong_values(self):
        for function, kinds in FUNCTIONS:
            choices = [[kind[0]] + kind[1][::5] + kind[1][-1:] for kind in kinds]
            for picks in itertools.product(*[range(len(choice)) for choice in choices]):
                wrong = [at for at, pick in enumerate(picks) if pick > 0]
                if wrong:
                    arguments = [choice[pick] for choice, pick in zip(choices, picks)]
                    with self.subTest(function=function.__name__, picks=picks):
                        self.check(function, arguments, kinds[wrong[0]][2])

    def test_valid_values(self):
        for function, kinds in FUNCTIONS:
            answer(function, [kind[0] for kind in kinds])

    def test_places_of_no_entries(self):
        self.check(block_sizes, [[], 0], errors.InvalidPlace)
        self.check(relation, [[], 0, 0], errors.InvalidPlace)

    def test_edges_of_places(self):
        self.check(block_sizes, [[7], 1], errors.InvalidPlace)
        self.check(block_sizes, [[7], -1], errors.InvalidPlace)
        self.check(block_sizes, [[7, 8], True], errors.InvalidPlace)
        self.assertEqual([block_sizes([7], 0), block_sizes([7, 8], 1)], [(0, 0), (0, 0)])

    def test_the_same_place_twice(self):
        for place in range(5):
            self.check(relation, [TIMES, place, place], errors.InvalidPlace)
        self.check(relation, [[1, 2, 2], 1, 1], errors.InvalidTimes)
        self.check(relation, [[1], 0, 0], errors.InvalidPlace)

    def test_edges_of_lengths(self):
        for length in (0, 40):
            self.assertGreater(count_times(length), 0)
            self.assertEqual(len(nth_times(length, 0)), length)
            self.assertEqual(len(next(walk_times(length))), length)
            self.check(nth_times, [length, count_times(length)], errors.InvalidNumber)
            self.check(nth_times, [length, -1], errors.InvalidNumber)
        self.assertEqual([count_with(0, 40), count_with(40, 0)], [0, 0])
        self.check(count_with, [40, 41], errors.InvalidNumber)
        self.check(count_with, [41, 40], errors.InvalidNumber)

    def test_too_many_times(self):
        for times in ([1] * 41, [2, 1] * 21, list(range(1, 42)), [1] * 700):
            self.assertEqual(self.check(times_number, [times], errors.TooLarge).limit, 40)
        for wrong in ([1] * 41 + [3], [2] * 41, [True] * 41, tuple([1] * 41), [0] * 700):
            self.check(times_number, [wrong], errors.InvalidTimes)
        self.assertEqual(times_number([1] * 40), 0)

    def test_times_that_are_not_clear(self):
        for times in ([1, 1], [2, 1, 2], [1, 2, 1, 1], [1, 2, 1, 2, 1], [1] * 700, [1, 2] * 60):
            self.check(count_orders, [times], errors.NotClear)
            for number in NOT_INTEGERS + [0, 1, -1, 10 ** 100]:
                self.check(nth_order, [times, number], errors.NotClear)
            for place in range(2):
                self.check(parent_of, [times, place], errors.NotClear)
            for place in NOT_INTEGERS + [-1, len(times), 10 ** 31]:
                self.check(parent_of, [times, place], errors.InvalidPlace)
        for times in ROWS_NOT_TIMES + [[2, 2, 2], (1, 1), None]:
            self.check(count_orders, [times], errors.InvalidTimes)
            self.check(nth_order, [times, -1], errors.InvalidTimes)
            self.check(parent_of, [times, -1], errors.InvalidTimes)

    def test_edges_of_the_numbers_of_orders(self):
        for order in [[], [0], [1, 0], [0, 2, 1]] + drawn_orders(5, 40, 130, 32):
            times = plain_times(order)
            count = count_orders(times)
            for number in (-1, -count, count, count + 1, count * 10 ** 9):
                self.check(nth_order, [times, number], errors.InvalidNumber)
            self.assertEqual(len(nth_order(times, count - 1)), len(order))

    def test_edges_of_places_and_numbers(self):
        for function in (parent_of, time_ranges):
            self.check(function, [[], 0], errors.InvalidPlace)
            self.check(function, [[1], 1], errors.InvalidPlace)
            self.check(function, [[1], -1], errors.InvalidPlace)
        self.check(time_if, [[], 0, 5], errors.InvalidPlace)
        self.check(time_if, [[1], 1, None], errors.InvalidPlace)
        self.check(time_if, [[1], 0, True], errors.InvalidEntry)
        for function in (count_before, rows_before):
            self.assertIn(function([1, 1], 40, 1), (0, []))
            self.check(function, [[1], 40, 0], errors.InvalidNumber)
            self.check(function, [[1], 41, 2], errors.InvalidNumber)
            self.check(function, [[1] * 700, 41, 0], errors.InvalidNumber)
            self.check(function, [[True], 41, 0], errors.InvalidRow)
        self.check(count_within, [41, -1], errors.InvalidNumber)
        self.check(count_within, [40, -1], errors.InvalidRounds)

    def test_edges_of_repeated_rows(self):
        for row in ([], [1], [5, 1]):
            self.check(long_time, [row, 0, 0], errors.InvalidPlace)
            self.check(long_time, [row, 3, 3 * len(row)], errors.InvalidPlace)
            self.check(long_time, [row, 0, None], errors.InvalidPlace)
            self.check(long_time, [row, -1, None], errors.InvalidNumber)
            self.check(long_left, [row, 0, -1], errors.InvalidRounds)
            self.check(long_left, [row, None, None], errors.InvalidNumber)
            self.check(long_needed, [row, True], errors.InvalidNumber)
        self.check(long_time, [(), -1, -1], errors.InvalidRow)
        self.check(long_left, [[True], -1, -1], errors.InvalidRow)
        self.check(long_needed, [None, None], errors.InvalidRow)

    def test_too_many_rows(self):
        for row, length, below in [([], 1, 1001), ([1], 40, 9), ([0], 3, 10 ** 31), ([], 40, 10 ** 31), ([0], 2, 502)]:
            self.assertGreater(count_before(row, length, below), 1000)
            self.assertEqual(self.check(rows_before, [row, length, below], errors.TooLarge).limit, 1000)
        self.check(rows_before, [[1], 41, 10 ** 31], errors.InvalidNumber)

    def test_generators_raise_at_their_first_item(self):
        for function, kinds in FUNCTIONS:
            if function in GENERATORS:
                for wrong in kinds[0][1]:
                    told = function(wrong)
                    self.assertIsInstance(told, types.GeneratorType)
                    with self.assertRaises(kinds[0][2]):
                        next(told)

    def test_an_error_changes_nothing(self):
        row, times, unclear = [3, 1, 2], [1, 2, 1], [1, 1]
        for function, arguments in [
            (peeled, [row, -1]), (block_sizes, [row, 3]), (relation, [times, 0, 3]), (nth_order, [times, 2]),
            (parent_of, [unclear, 0]), (order_number, [row]), (rows_before, [row, 9, 99]), (time_ranges, [row, 3]),
            (time_if, [row, 0, None]), (count_before, [row, 9, 0]), (long_time, [row, 2, 6]), (long_left, [row, 2, -1]),
            (long_needed, [row, -1]), (show_row, [row + [None]]),
        ]:
            before = copy.deepcopy(arguments)
            with self.assertRaises(errors.PeakError):
                function(*arguments)
            self.assertEqual(arguments, before)


class BeyondTest(unittest.TestCase):
    """No point names an error for more items or digits than callers should pass."""

    def test_rows(self):
        for row in drawn_rows(10, 700, 31) + [list(range(900)), [10 ** 80] * 300, [-10 ** 80, 10 ** 80] * 200]:
            steps = list(peel_steps(row))
            times = times_of(row)
            self.assertEqual(rounds_needed(row), len(steps) - 1)
            self.assertEqual(peeled(row, 1), steps[min(1, len(steps) - 1)])
            self.assertEqual(peeled(row, 10 ** 100), [])
            self.assertEqual(places_in_round(row, 10 ** 100), [])
            self.assertEqual(len(peaks_of(row)), times.count(1))
            self.assertEqual(times_of(row_with(times)), times)

    def test_blocks_and_relations(self):
        rising = list(range(800))
        self.assertEqual([block_sizes(rising, 0), block_sizes(rising, 799)], [(0, 799), (0, 0)])
        times = plain_times(rising)
        self.assertEqual([relation(times, 0, 799), relation(times, 799, 0)], ["<=", ">="])
        self.assertEqual(relation([1] * 800, 5, 700), "=")
        self.assertEqual(relation([2, 1, 3, 1] * 200, 0, 799), "open")

    def test_answers_can_be_passed_back(self):
        times = nth_times(40, count_times(40) // 3)
        self.assertEqual(times_of(row_with(times * 20)), times * 20)
        self.assertEqual(times_number(times), count_times(40) // 3)

    def test_orders_and_ranges(self):
        for row in drawn_rows(5, 700, 33):
            times = times_of(row)
            if row:
                self.assertIn(times[0], [time for time, _, _ in time_ranges(row, 0)])
                self.assertEqual(len(time_if(row, len(row) - 1, 10 ** 80)), len(row))
            self.assertIn(is_clear(times), (True, False))
            too_long = [row + [0] * 41, 40, 10 ** 99]
            self.assertEqual([count_before(*too_long), rows_before(*too_long)], [0, []])
        rising = list(range(700, 0, -1))
        self.assertEqual([parent_of(rising, 699), count_orders(rising), len(nth_order(rising, 0))], [698, 1, 700])
        self.assertEqual(order_number(list(range(700))), 0)
        self.assertEqual(count_within(40, 10 ** 100), count_within(40, 40))
        self.assertEqual(count_before([], 40, 10 ** 99), 10 ** 99)
