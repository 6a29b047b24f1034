"""Tests of point 3: arguments stay as they are, and results do not depend on one another."""

import copy
import itertools
import unittest

from peakpeel.before import count_before, rows_before
from peakpeel.counting import count_times, count_with, nth_times, times_number, walk_times
from peakpeel.joins import Times
from peakpeel.orders import count_orders, count_within, is_clear, nth_order, order_number, parent_of
from peakpeel.ranges import time_if, time_ranges
from peakpeel.rows import block_sizes, is_row, peaks_of, peel_steps, peeled
from peakpeel.times import is_times, places_in_round, relation, rounds_needed, row_with, times_of
from tests.plain import drawn_orders, drawn_rows, plain_times


def calls_of(row):
    """Each function with valid arguments, lists among them."""
    times = plain_times(row)
    last = len(row) - 1
    return [
        (is_row, [row]), (peaks_of, [row]), (peeled, [row, 0]), (peeled, [row, 1]), (peeled, [row, 10 ** 30]),
        (peel_steps, [row]), (block_sizes, [row, 0]), (block_sizes, [row, last]), (times_of, [row]),
        (rounds_needed, [row]), (places_in_round, [row, 1]), (places_in_round, [row, 99]), (is_times, [row]),
        (is_times, [times]), (row_with, [times]), (relation, [times, 0, last]), (times_number, [times]),
        (is_clear, [times]), (time_ranges, [row, 0]), (time_ranges, [row, last]), (time_if, [row, last, 3]),
        (count_before, [row, 40, 200]), (listed_times, [times]), (joined_times, [times]),
    ]


def order_calls(order):
    """Each function over orders, and over their times, with valid arguments."""
    times = plain_times(order)
    return [
        (is_clear, [times]), (parent_of, [times, 0]), (count_orders, [times]), (nth_order, [times, 0]),
        (order_number, [order]),
    ]


def listed_times(times):
    return Times(times).listed


def joined_times(times):
    """The lists of several objects, among them those that an object is joined from."""
    one = Times(times)
    several = [one, one + one, one | one, one * 2, one * 1, one + Times([])]
    return [told.listed for told in several + [one]]


def counting_calls():
    return [
        (count_times, [5]), (count_with, [5, 3]), (nth_times, [5, 70]), (nth_times, [0, 0]), (walk_times, [4]),
        (walk_times, [0]), (nth_times, [4, 3]), (nth_times, [12, 10 ** 5]), (count_within, [5, 3]),
        (rows_before, [[1, 2], 4, 4]), (rows_before, [[], 0, 1]), (rows_before, [[], 3, 3]), (nth_order, [[], 0]),
    ]


def spoil(value):
    """Changes a list, and the lists in it."""
    if isinstance(value, list):
        for item in value:
            spoil(item)
        value.append("spoilt")
        value[0] = None


def answer(function, arguments):
    told = function(*arguments)
    return list(told) if function in (peel_steps, walk_times) else told


class ConventionTest(unittest.TestCase):
    def rows(self):
        return [row for row in drawn_rows(30, 40, 41) if len(row) > 1] + [[3, 3], [1, 2, 3]]

    def calls(self):
        found = [call for row in self.rows() for call in calls_of(row) + counting_calls()]
        return found + [call for order in drawn_orders(10, 2, 60, 42) for call in order_calls(order)]

    def test_arguments_stay_as_they_are(self):
        for function, arguments in self.calls():
            before = copy.deepcopy(arguments)
            answer(function, arguments)
            self.assertEqual(arguments, before, function.__name__)

    def test_changed_results_have_no_effect(self):
        for function, arguments in self.calls():
            before = copy.deepcopy(arguments)
            first = answer(function, arguments)
            kept = copy.deepcopy(first)
            spoil(first)
            self.assertEqual(arguments, before, function.__name__)
            self.assertEqual(answer(function, arguments), kept, function.__name__)

    def test_equal_arguments_give_equal_results(self):
        for one, two in zip(self.calls(), self.calls()):
            self.assertEqual(answer(*one), answer(*two))

    def test_predicates_return_truth_values(self):
        for value in ([], [1], [2], None, [True], "x"):
            self.assertIn(is_row(value), (True, False))
            self.assertIs(type(is_row(value)), bool)
            self.assertIs(type(is_times(value)), bool)
        for times in ([], [1], [1, 1], [1, 2]):
            self.assertIs(type(is_clear(times)), bool)


class GeneratorTest(unittest.TestCase):
    def test_changed_items_have_no_effect(self):
        for make in (lambda: peel_steps([1, 2, 3, 2, 5, 1]), lambda: walk_times(4), lambda: peel_steps([])):
            known = list(make())
            found = []
            for item in make():
                found.append(list(item))
                item.append(10 ** 9)
                item[0] = -10 ** 9
            self.assertEqual(found, known)

    def test_items_are_different_objects(self):
        row = [1, 2, 3]
        steps = [row, *peel_steps(row), *peel_steps(row)]
        self.assertEqual(len({id(step) for step in steps}), len(steps))
        walks = [*walk_times(3), *walk_times(3)]
        self.assertEqual(len({id(times) for times in walks}), len(walks))

    def test_a_row_that_changes_after_the_first_item(self):
        row = [1, 2, 3, 2]
        known = list(peel_steps(row))
        steps = peel_steps(row)
        found = [next(steps)]
        row[:] = [9, 9]
        self.assertEqual(found + list(steps), known)

    def test_two_walks_at_the_same_time(self):
        for make in (lambda: peel_steps(list(range(9))), lambda: walk_times(5)):
            known = list(make())
            self.assertEqual(list(zip(make(), make())), list(zip(known, known)))
            ahead, behind = make(), make()
            self.assertEqual([next(ahead), next(ahead), next(behind)], [known[0], known[1], known[0]])
            self.assertEqual([next(ahead), next(behind)], [known[2], known[1]])

    def test_left_early_and_begun_again(self):
        left = walk_times(40)
        first = [next(left), next(left)]
        left.close()
        self.assertEqual(list(itertools.islice(walk_times(40), 2)), first)
        steps = peel_steps([1, 2, 3])
        next(steps)
        steps.close()
        self.assertEqual(list(peel_steps([1, 2, 3])), [[1, 2, 3], [1, 2], [1], []])
