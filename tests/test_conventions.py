"""Tests of point 3: arguments stay as they are, and results do not depend on one another."""

import copy
import itertools
import unittest

from peakpeel.counting import count_times, count_with, nth_times, times_number, walk_times
from peakpeel.rows import block_sizes, is_row, peaks_of, peel_steps, peeled
from peakpeel.times import is_times, places_in_round, relation, rounds_needed, row_with, times_of
from tests.plain import drawn_rows, plain_times


def calls_of(row):
    """Each function with valid arguments, lists among them."""
    times = plain_times(row)
    last = len(row) - 1
    return [
        (is_row, [row]), (peaks_of, [row]), (peeled, [row, 0]), (peeled, [row, 1]), (peeled, [row, 10 ** 30]),
        (peel_steps, [row]), (block_sizes, [row, 0]), (block_sizes, [row, last]), (times_of, [row]),
        (rounds_needed, [row]), (places_in_round, [row, 1]), (places_in_round, [row, 99]), (is_times, [row]),
        (is_times, [times]), (row_with, [times]), (relation, [times, 0, last]), (times_number, [times]),
    ]


def counting_calls():
    return [
        (count_times, [5]), (count_with, [5, 3]), (nth_times, [5, 70]), (nth_times, [0, 0]), (walk_times, [4]),
        (walk_times, [0]),
    ]


def spoil(value):
    """Changes a list, and the lists in it."""
    if isinstance(value, list):
        for item in value:
            spoil(item)
        value.append("spoilt")
        value[0] = None


def answer(function, arguments):
    told = function(*arguments)
    return list(told) if function in (peel_steps, walk_times) else told


class ConventionTest(unittest.TestCase):
    def rows(self):
        return [row for row in drawn_rows(30, 40, 41) if len(row) > 1] + [[3, 3], [1, 2, 3]]

    def test_arguments_stay_as_they_are(self):
        for row in self.rows():
            for function, arguments in calls_of(row):
                before = copy.deepcopy(arguments)
                answer(function, arguments)
                self.assertEqual(arguments, before, function.__name__)

    def test_changed_results_have_no_effect(self):
        for row in self.rows():
            for function, arguments in calls_of(row) + counting_calls():
                before = copy.deepcopy(arguments)
                first = answer(function, arguments)
                kept = copy.deepcopy(first)
                spoil(first)
                self.assertEqual(arguments, before, function.__name__)
                self.assertEqual(answer(function, arguments), kept, function.__name__)

    def test_equal_arguments_give_equal_results(self):
        for row in self.rows():
            for one, two in zip(calls_of(row), calls_of(list(row))):
                self.assertEqual(answer(*one), answer(*two))

    def test_predicates_return_truth_values(self):
        for value in ([], [1], [2], None, [True], "x"):
            self.assertIn(is_row(value), (True, False))
            self.assertIs(type(is_row(value)), bool)
            self.assertIs(type(is_times(value)), bool)


class GeneratorTest(unittest.TestCase):
    def test_changed_items_have_no_effect(self):
        for make in (lambda: peel_steps([1, 2, 3, 2, 5, 1]), lambda: walk_times(4), lambda: peel_steps([])):
            known = list(make())
            found = []
            for item in make():
                found.append(list(item))
                item.append(10 ** 9)
                item[0] = -10 ** 9
            self.assertEqual(found, known)

    def test_items_are_different_objects(self):
        row = [1, 2, 3]
        steps = [row, *peel_steps(row), *peel_steps(row)]
        self.assertEqual(len({id(step) for step in steps}), len(steps))
        walks = [*walk_times(3), *walk_times(3)]
        self.assertEqual(len({id(times) for times in walks}), len(walks))

    def test_a_row_that_changes_after_the_first_item(self):
        row = [1, 2, 3, 2]
        known = list(peel_steps(row))
        steps = peel_steps(row)
        found = [next(steps)]
        row[:] = [9, 9]
        self.assertEqual(found + list(steps), known)

    def test_two_walks_at_the_same_time(self):
        for make in (lambda: peel_steps(list(range(9))), lambda: walk_times(5)):
            known = list(make())
            self.assertEqual(list(zip(make(), make())), list(zip(known, known)))
            ahead, behind = make(), make()
            self.assertEqual([next(ahead), next(ahead), next(behind)], [known[0], known[1], known[0]])
            self.assertEqual([next(ahead), next(behind)], [known[2], known[1]])

    def test_left_early_and_begun_again(self):
        left = walk_times(40)
        first = [next(left), next(left)]
        left.close()
        self.assertEqual(list(itertools.islice(walk_times(40), 2)), first)
        steps = peel_steps([1, 2, 3])
        next(steps)
        steps.close()
        self.assertEqual(list(peel_steps([1, 2, 3])), [[1, 2, 3], [1, 2], [1], []])
