"""Tests of point 3: arguments stay as they are, and results do not depend on one another."""

import copy
import itertools
import unittest

from peakpeel.before import count_before, rows_before
from peakpeel.counting import count_times, count_with, nth_times, times_number, walk_times
from peakpeel.desk import Desk
from peakpeel.joins import Times
from peakpeel.long import long_left, long_needed, long_time
from peakpeel.orders import count_orders, count_within, is_clear, nth_order, order_number, parent_of
from peakpeel.ranges import time_if, time_ranges
from peakpeel.ridges import Ridge, SumRidge
from peakpeel.rows import block_sizes, is_row, peaks_of, peel_steps, peeled
from peakpeel.texts import read_row, show_row
from peakpeel.times import is_times, places_in_round, relation, rounds_needed, row_with, times_of
from tests.interface import INTERFACE
from tests.plain import drawn_orders, drawn_rows, plain_text, plain_times


def calls_of(row):
    """Each function with valid arguments, lists among them."""
    times = plain_times(row)
    last = len(row) - 1
    return [
        (is_row, [row]), (peaks_of, [row]), (peeled, [row, 0]), (peeled, [row, 1]), (peeled, [row, 10 ** 30]),
        (peel_steps, [row]), (block_sizes, [row, 0]), (block_sizes, [row, last]), (times_of, [row]),
        (rounds_needed, [row]), (places_in_round, [row, 1]), (places_in_round, [row, 99]), (is_times, [row]),
        (is_times, [times]), (row_with, [times]), (relation, [times, 0, last]), (times_number, [times]),
        (is_clear, [times]), (time_ranges, [row, 0]), (time_ranges, [row, last]), (time_if, [row, last, 3]),
        (count_before, [row, 40, 200]), (long_time, [row, 3, last]), (long_time, [row, 10 ** 30, 10 ** 30]),
        (long_left, [row, 2, 1]), (long_left, [row, 10 ** 30, 1]), (long_needed, [row, 2]), (show_row, [row]),
        (read_row, [plain_text(row)]),
    ]


def order_calls(order):
    """Each function over orders, and over their times, with valid arguments."""
    times = plain_times(order)
    return [
        (is_clear, [times]), (parent_of, [times, 0]), (count_orders, [times]), (nth_order, [times, 0]),
        (order_number, [order]),
    ]


def counting_calls():
    return [
        (count_times, [5]), (count_with, [5, 3]), (nth_times, [5, 70]), (nth_times, [0, 0]), (walk_times, [4]),
        (walk_times, [0]), (nth_times, [4, 3]), (nth_times, [12, 10 ** 5]), (count_within, [5, 3]),
        (rows_before, [[1, 2], 4, 4]), (rows_before, [[], 0, 1]), (rows_before, [[], 3, 3]), (nth_order, [[], 0]),
        (peel_steps, [[]]), (times_of, [[]]), (peaks_of, [[]]), (peeled, [[], 3]), (read_row, ["-"]), (row_with, [[]]),
    ]


def times_calls(times):
    """Each operator, method and property of a Times that is created for the call."""
    return [
        (lambda items: Times(items).listed, [times]),
        (lambda items: Times(items).highest, [times]),
        (lambda items, others: (Times(items) + Times(others)).listed, [times, [1]]),
        (lambda items, others: (Times(items) + Times(others)).listed, [times, []]),
        (lambda items, others: (Times(items) | Times(others)).listed, [times, [2, 1]]),
        (lambda items, number: (Times(items) * number).listed, [times, 3]),
        (lambda items, number: (Times(items) * number).listed, [times, 1]),
        (lambda items: [len(Times(items)), Times(items)[0], 1 in Times(items), Times(items)(1)], [times]),
        (lambda items: Times(items) == Times(items), [times]),
    ]


def ridge_calls(row):
    """Each method and property of a ridge that is created for the call."""
    found = []
    for kind in (Ridge, SumRidge):
        found += [
            (lambda entries, kind=kind: [kind(entries).put(1, 5), kind(entries).take(0), len(kind(entries))], [row]),
            (lambda entries, kind=kind: [kind(entries).change(0, 5), kind(entries).peel()], [row]),
            (lambda entries, kind=kind: kind(entries).try_peel(0, 1, 0, 10 ** 30), [row]),
            (lambda entries, kind=kind: kind(entries).row_now, [row]),
            (lambda entries, kind=kind: kind(entries).times_now, [row]),
            (lambda entries, kind=kind: list(kind(entries).rows_so_far()), [row]),
            (lambda entries, kind=kind: kind(entries).twin().row_now, [row]),
            (lambda entries, kind=kind: changed(kind(entries)), [row]),
            (lambda entries, kind=kind: list(changed(kind(entries)).twin().rows_so_far()), [row]),
            (lambda entries, kind=kind: changed(kind(entries)).row_now, [row]),
            (lambda text, kind=kind: kind.read(text).row_now, [plain_text(row)]),
        ]
    found.append((lambda entries: changed(SumRidge(entries)).sum_now, [row]))
    return found


def changed(ridge):
    """A ridge behind some changes, one of which is reverted."""
    ridge.change(0, 5)
    ridge.put(0, -5)
    ridge.undo()
    ridge.peel()
    return ridge


def desk_calls(row):
    commands = ["take 0", "put 0 7", "change 0 8", "peel 1", "show", "times", "needed", "undo", "ranges 0", "show"]
    return [(lambda text: run([f"row {text}", *commands]), [plain_text(row)])]


def run(commands):
    desk = Desk()
    return [desk.execute(command) for command in commands]


def spoil(value):
    """Changes a list, and the lists in it."""
    if isinstance(value, list):
        for item in value:
            spoil(item)
        value.append("spoilt")
        value[0] = None


def answer(function, arguments):
    told = function(*arguments)
    return list(told) if function in (peel_steps, walk_times) else told


class ConventionTest(unittest.TestCase):
    def rows(self):
        return [row for row in drawn_rows(30, 40, 41) if len(row) > 1] + [[3, 3], [1, 2, 3]]

    def calls(self):
        found = counting_calls()
        for row in self.rows():
            found += calls_of(row) + times_calls(plain_times(row)) + ridge_calls(row) + desk_calls(row)
        return found + [call for order in drawn_orders(10, 2, 60, 42) for call in order_calls(order)]

    def test_every_function_is_called(self):
        known = {name for parts in INTERFACE.values() for name, parameters in parts.items() if parameters}
        found = {function.__name__ for function, _ in self.calls()} - {"<lambda>"}
        self.assertEqual(found, known)

    def test_arguments_stay_as_they_are(self):
        for function, arguments in self.calls():
            before = copy.deepcopy(arguments)
            answer(function, arguments)
            self.assertEqual(arguments, before, function.__name__)

    def test_changed_results_have_no_effect(self):
        for function, arguments in self.calls():
            before = copy.deepcopy(arguments)
            first = answer(function, arguments)
            kept = copy.deepcopy(first)
            spoil(first)
            self.assertEqual(arguments, before, function.__name__)
            self.assertEqual(answer(function, arguments), kept, function.__name__)

    def test_equal_arguments_give_equal_results(self):
        for one, two in zip(self.calls(), self.calls()):
            self.assertEqual(answer(*one), answer(*two))

    def test_predicates_return_truth_values(self):
        for value in ([], [1], [2], None, [True], "x"):
            self.assertIn(is_row(value), (True, False))
            self.assertIs(type(is_row(value)), bool)
            self.assertIs(type(is_times(value)), bool)
        for times in ([], [1], [1, 1], [1, 2]):
            self.assertIs(type(is_clear(times)), bool)


class ObjectTest(unittest.TestCase):
    """Results of one and the same object."""

    def objects(self):
        """Tuples of an object and of all that it can be asked without changing it."""
        row = [5, 1, 4, 4, 2, 3]
        for kind in (Ridge, SumRidge):
            for ridge in (kind(row), changed(kind(row)), changed(kind(row)).twin()):
                questions = [
                    lambda one: one.row_now, lambda one: one.times_now, lambda one: list(one.rows_so_far()),
                    lambda one: one.try_peel(0, 1, 1, 10 ** 30), lambda one: one.try_peel(), lambda one: one.twin().row_now,
                    lambda one: list(one.twin().rows_so_far()), len, lambda one: getattr(one, "sum_now", None),
                    lambda one: one == Ridge(row),
                ]
                yield ridge, questions
        other = Times([2, 1])
        questions = [
            lambda one: one.listed, lambda one: one.highest, lambda one: (one + other).listed, lambda one: (one * 1).listed,
            lambda one: (other + one).listed, lambda one: (one | other).listed, lambda one: (one * 3).listed, len,
            lambda one: one[0], lambda one: 1 in one, lambda one: one(1), lambda one: one == other,
        ]
        for times in (Times(plain_times(row)), other, other + Times([]), other | other, other * 2):
            yield times, questions

    def test_changed_results_have_no_effect(self):
        for told, questions in self.objects():
            known = [copy.deepcopy(question(told)) for question in questions]
            for at, question in enumerate(questions):
                spoil(question(told))
                self.assertEqual([question(told) for question in questions], known, at)


class GeneratorTest(unittest.TestCase):
    def makers(self):
        ridge = Ridge([1, 2, 3])
        for place in range(4):
            ridge.put(place, 9)
        return [lambda: peel_steps([1, 2, 3, 2, 5, 1]), lambda: walk_times(4), lambda: peel_steps([]), ridge.rows_so_far]

    def test_changed_items_have_no_effect(self):
        for make in self.makers():
            known = list(make())
            found = []
            for item in make():
                found.append(list(item))
                item.append(10 ** 9)
                item[0] = -10 ** 9
            self.assertEqual(found, known)

    def test_items_are_different_objects(self):
        row = [1, 2, 3]
        steps = [row, *peel_steps(row), *peel_steps(row)]
        self.assertEqual(len({id(step) for step in steps}), len(steps))
        walks = [*walk_times(3), *walk_times(3)]
        self.assertEqual(len({id(times) for times in walks}), len(walks))

    def test_a_row_that_changes_after_the_first_item(self):
        row = [1, 2, 3, 2]
        known = list(peel_steps(row))
        steps = peel_steps(row)
        found = [next(steps)]
        row[:] = [9, 9]
        self.assertEqual(found + list(steps), known)

    def test_two_walks_at_the_same_time(self):
        for make in [lambda: peel_steps(list(range(9))), lambda: walk_times(5), self.makers()[-1]]:
            known = list(make())
            self.assertEqual(list(zip(make(), make())), list(zip(known, known)))
            ahead, behind = make(), make()
            self.assertEqual([next(ahead), next(ahead), next(behind)], [known[0], known[1], known[0]])
            self.assertEqual([next(ahead), next(behind)], [known[2], known[1]])

    def test_left_early_and_begun_again(self):
        left = walk_times(40)
        first = [next(left), next(left)]
        left.close()
        self.assertEqual(list(itertools.islice(walk_times(40), 2)), first)
        steps = peel_steps([1, 2, 3])
        next(steps)
        steps.close()
        self.assertEqual(list(peel_steps([1, 2, 3])), [[1, 2, 3], [1, 2], [1], []])
