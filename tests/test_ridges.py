"""Tests of peakpeel.ridges: rows that change."""

import itertools
import random
import types
import unittest

from peakpeel import errors
from peakpeel.ridges import Ridge, SumRidge
from peakpeel.rows import peeled
from tests.model import PlainRidge, do, drawn_change, state_of
from tests.plain import all_rows, drawn_entries, drawn_rows, plain_rows, plain_text, plain_times
from tests.wrong import NOT_TEXTS, NOTHING

KINDS = (Ridge, SumRidge)


class Higher(Ridge):
    """A class that somebody puts under Ridge."""


class RidgeCase(unittest.TestCase):
    def check_state(self, ridge, plain):
        row = plain.now()
        self.assertEqual([ridge.row_now, len(ridge)], [row, len(row)])
        self.assertEqual(ridge.times_now, plain_times(row))
        self.assertEqual(list(ridge.rows_so_far()), plain.rows)
        if isinstance(ridge, SumRidge):
            self.assertEqual(ridge.sum_now, plain.sums[-1])

    def check_undone(self, ridge, plain):
        """Reverts all changes, up to the first row."""
        while len(plain.rows) > 1:
            self.assertIsNone(ridge.undo())
            plain.undo()
            self.check_state(ridge, plain)
        for _ in range(2):
            with self.assertRaises(errors.NothingToUndo):
                ridge.undo()
            self.check_state(ridge, plain)


class ExampleTest(RidgeCase):
    def test_interface(self):
        ridge = SumRidge([5, 1, 4])
        self.assertEqual(
            [ridge.put(3, 2), ridge.put(4, 3), ridge.times_now, ridge.peel(), ridge.row_now, ridge.sum_now,
             ridge.try_peel(0, 1)],
            [4, 5, [1, 3, 1, 2, 1], 3, [1, 2], 12, [[1, 2], [1]]],
        )
        self.assertEqual(
            [ridge.undo(), ridge.sum_now, ridge.change(1, 9), ridge.take(0), ridge == Ridge([9, 4, 2, 3])],
            [None, 0, 1, 5, True],
        )

    def test_the_most(self):
        self.assertEqual([Ridge.MOST, SumRidge.MOST, Ridge().MOST, SumRidge([1]).MOST], [60] * 4)
        self.assertTrue(issubclass(SumRidge, Ridge))
        self.assertEqual(SumRidge.__bases__, (Ridge,))


class NewTest(RidgeCase):
    def test_rows(self):
        for kind in KINDS:
            for row in [[], [0], [5, 1, 4], [7] * 60, list(range(60))] + drawn_entries(30, 60, 111):
                self.check_state(kind(row), PlainRidge(row))
                self.check_undone(kind(row), PlainRidge(row))

    def test_no_row(self):
        for kind in KINDS:
            for ridge in (kind(), kind(None), kind([])):
                self.check_undone(ridge, PlainRidge([]))
                self.assertEqual([ridge.try_peel(), ridge.try_peel(0, 5)], [[], [[], []]])
                self.assertEqual([ridge.peel(), ridge.put(0, 3), ridge.row_now], [0, 1, [3]])
                ridge.undo()
                ridge.undo()
                self.check_undone(ridge, PlainRidge([]))

    def test_two_new_ones_are_independent(self):
        for kind in KINDS:
            one, two = kind(), kind()
            one.put(0, 1)
            self.assertEqual([two.row_now, kind().row_now, list(two.rows_so_far())], [[], [], [[]]])
            with self.assertRaises(errors.NothingToUndo):
                two.undo()

    def test_read(self):
        for kind in KINDS + (Higher,):
            for row in [[], [0], [-1, 0]] + drawn_entries(30, 60, 112):
                ridge = kind.read(plain_text(row))
                self.assertIs(type(ridge), kind)
                self.check_undone(ridge, PlainRidge(row))

    def test_read_off_an_object(self):
        for kind in KINDS:
            ridge = kind([3, 1])
            ridge.put(0, 5)
            other = ridge.read("2 2")
            self.assertIs(type(other), kind)
            self.assertEqual([other.row_now, ridge.row_now], [[2, 2], [5, 3, 1]])

    def test_sums(self):
        self.assertEqual([SumRidge().sum_now, SumRidge([3]).sum_now, SumRidge.read("5 5").sum_now], [0, 0, 0])
        self.assertFalse(hasattr(Ridge([3]), "sum_now"))


class ChangeTest(RidgeCase):
    def test_every_place(self):
        for kind in KINDS:
            for row in [[], [4], [4, 4], [5, 1, 4, 2, 3]]:
                for place, entry in itertools.product(range(len(row) + 1), (4, -10 ** 31, 0)):
                    ridge, plain = kind(row), PlainRidge(row)
                    self.assertEqual(ridge.put(place, entry), plain.put(place, entry))
                    self.check_state(ridge, plain)
                    self.check_undone(ridge, plain)
                for place in range(len(row)):
                    ridge, plain = kind(row), PlainRidge(row)
                    self.assertEqual(ridge.take(place), plain.take(place))
                    self.check_undone(ridge, plain)
                    self.assertEqual(ridge.change(place, 9), plain.change(place, 9))
                    self.check_undone(ridge, plain)

    def test_peel(self):
        for kind in KINDS:
            for row in [row for length in range(5) for row in all_rows(length, 3)] + drawn_rows(20, 60, 113):
                for rounds in [*range(len(plain_rows(row)) + 1), 10 ** 31]:
                    ridge, plain = kind(row), PlainRidge(row)
                    self.assertEqual(ridge.peel(rounds=rounds), plain.peel(rounds))
                    self.check_state(ridge, plain)
                    self.assertIsNone(ridge.undo())
                    self.check_state(ridge, PlainRidge(row))
                ridge, plain = kind(row), PlainRidge(row)
                self.assertEqual(ridge.peel(), plain.peel(1))
                self.check_undone(ridge, plain)

    def test_rounds_by_name_only(self):
        for kind in KINDS:
            ridge = kind([5, 1, 4])
            with self.assertRaises(TypeError):
                ridge.peel(1)
            self.assertEqual(list(ridge.rows_so_far()), [[5, 1, 4]])

    def test_changes_that_change_nothing(self):
        for kind in KINDS:
            ridge = kind([5, 1, 4])
            self.assertEqual([ridge.peel(rounds=0), ridge.change(1, 1), ridge.change(0, 7)], [0, 1, 5])
            self.assertEqual(list(ridge.rows_so_far()), [[5, 1, 4]] * 3 + [[7, 1, 4]])
            for row in ([5, 1, 4], [5, 1, 4], [5, 1, 4]):
                self.assertIsNone(ridge.undo())
                self.assertEqual(ridge.row_now, row)
            with self.assertRaises(errors.NothingToUndo):
                ridge.undo()
            empty = kind()
            self.assertEqual([empty.peel(), empty.peel(rounds=10 ** 30)], [0, 0])
            self.assertEqual(list(empty.rows_so_far()), [[], [], []])
            self.assertEqual([empty.undo(), empty.undo()], [None, None])

    def test_sums_of_rounds_alone(self):
        ridge = SumRidge([5, -1, 4, -2, 3])
        told = [ridge.sum_now]
        for name, arguments in [
            ("take", [0]), ("peel", [1]), ("change", [0, 50]), ("put", [0, 7]), ("peel", [0]), ("peel", [2]), ("undo", []),
            ("undo", []), ("undo", []), ("undo", []), ("undo", []), ("undo", []),
        ]:
            do(ridge, name, arguments)
            told.append(ridge.sum_now)
        self.assertEqual(told, [0, 0, 7, 7, 7, 7, 64, 7, 7, 7, 7, 0, 0])

    def test_drawn_runs(self):
        for kind, seed in itertools.product(KINDS, range(60)):
            chance = random.Random(1000 + seed)
            row = drawn_entries(1, 12, seed)[0]
            ridge, plain = kind(row), PlainRidge(row)
            for _ in range(chance.choice([10, 40])):
                name, arguments = drawn_change(plain, chance)
                self.assertEqual(do(ridge, name, arguments), getattr(plain, name)(*arguments), (name, arguments))
                self.check_state(ridge, plain)
                numbers = [chance.choice([0, 1, 2, 10 ** 30]) for _ in range(chance.randint(0, 4))]
                self.assertEqual(ridge.try_peel(*numbers), [plain.after(number) for number in numbers])
                self.assertEqual(ridge, Ridge(plain.now()))
            self.check_undone(ridge, plain)

    def test_120_changes(self):
        for kind in KINDS:
            chance = random.Random(114)
            ridge, plain = kind([3, 1]), PlainRidge([3, 1])
            while len(plain.rows) <= 120:
                name, arguments = drawn_change(plain, chance)
                if name != "undo":
                    self.assertEqual(do(ridge, name, arguments), getattr(plain, name)(*arguments))
            self.check_state(ridge, plain)
            self.assertEqual(len(list(ridge.rows_so_far())), 121)
            self.check_state(ridge.twin(), plain)
            self.check_undone(ridge, plain)

    def test_more_changes_than_promised(self):
        ridge = SumRidge()
        for number in range(1000):
            ridge.put(0, number)
            ridge.peel()
        self.assertEqual([len(list(ridge.rows_so_far())), ridge.sum_now], [2001, 499500])
        for _ in range(2000):
            ridge.undo()
        self.assertEqual([ridge.row_now, ridge.sum_now], [[], 0])


class FullTest(RidgeCase):
    def test_sixty_entries(self):
        for kind in KINDS:
            ridge, plain = kind(), PlainRidge([])
            for number in range(60):
                place = number * 7 // 10
                self.assertEqual(ridge.put(place, number % 9), plain.put(place, number % 9))
            self.check_state(ridge, plain)
            for place in (0, 30, 59, 60):
                with self.assertRaises(errors.TooLarge) as caught:
                    ridge.put(place, 5)
                self.assertEqual(caught.exception.limit, 60)
                self.check_state(ridge, plain)
            self.assertEqual(ridge.change(59, -4), plain.change(59, -4))
            self.assertEqual(ridge.take(30), plain.take(30))
            self.assertEqual(ridge.put(59, 4), 60)
            plain.put(59, 4)
            self.check_undone(ridge, plain)

    def test_too_many_entries(self):
        for kind in KINDS:
            self.assertEqual(len(kind([1, 2] * 30)), 60)
            self.assertEqual(len(kind.read(plain_text([1, 2] * 30))), 60)
            for many in (61, 62, 70, 700):
                for use in (lambda: kind([1] * many), lambda: kind.read(plain_text([-1] * many))):
                    with self.assertRaises(errors.PeakError) as caught:
                        use()
                    self.assertIs(type(caught.exception), errors.TooLarge)
                    self.assertEqual(caught.exception.limit, 60)

    def test_great_entries(self):
        ridge = SumRidge([10 ** 200, -10 ** 200])
        self.assertEqual([ridge.put(1, 10 ** 300), ridge.change(0, -10 ** 250), ridge.peel()], [3, 10 ** 200, 1])
        self.assertEqual([ridge.sum_now, ridge.row_now], [10 ** 300, [-10 ** 250, -10 ** 200]])
        self.assertEqual(ridge.peel(rounds=10 ** 100), 2)
        self.assertEqual(ridge.try_peel(*[10 ** 50] * 20), [[]] * 20)


class ListTest(RidgeCase):
    def test_a_list_that_is_handed_over(self):
        for kind in KINDS:
            row = [5, 1, 4]
            ridge = kind(row)
            row.append(9)
            row[0] = None
            self.check_state(ridge, PlainRidge([5, 1, 4]))
            self.assertEqual(row, [None, 1, 4, 9])
            again = [5, 1, 4]
            other = kind(again)
            other.put(0, 2)
            other.peel()
            self.assertEqual(again, [5, 1, 4])

    def test_lists_that_are_returned(self):
        for kind in KINDS:
            row = [5, 1, 4, 4, 2]
            ridge, plain = kind(row), PlainRidge(row)
            for name, arguments in [("put", [2, 8]), ("peel", [0]), ("take", [1]), ("peel", [1]), ("change", [0, 3])]:
                self.assertEqual(do(ridge, name, arguments), getattr(plain, name)(*arguments))
                told = [ridge.row_now, ridge.times_now, *ridge.try_peel(0, 1, 0), *ridge.rows_so_far()]
                told += [ridge.try_peel(0, 0), ridge.twin().row_now]
                for told_list in told:
                    told_list.append("spoilt")
                    told_list[0] = None
                self.check_state(ridge, plain)
            self.check_undone(ridge, plain)

    def test_all_lists_are_new(self):
        for kind in KINDS:
            ridge = kind([2, 1])
            ridge.peel(rounds=0)
            lists = [ridge.row_now, ridge.row_now, *ridge.try_peel(0, 0), *ridge.rows_so_far(), *ridge.rows_so_far()]
            lists += [ridge.times_now, ridge.times_now, ridge.try_peel(), ridge.try_peel(), ridge.twin().row_now]
            self.assertEqual(len({id(one) for one in lists}), len(lists))


class RowsSoFarTest(RidgeCase):
    def ridges(self):
        for kind in KINDS:
            ridge, plain = kind([1, 2, 1]), PlainRidge([1, 2, 1])
            for name, arguments in [("put", [0, 2]), ("peel", [1]), ("undo", []), ("peel", [2]), ("put", [0, 7])]:
                do(ridge, name, arguments)
                getattr(plain, name)(*arguments)
            yield ridge, plain.rows

    def test_left_early_and_begun_again(self):
        for ridge, rows in self.ridges():
            told = ridge.rows_so_far()
            self.assertIsInstance(told, types.GeneratorType)
            self.assertEqual([next(told), next(told)], rows[:2])
            told.close()
            self.assertEqual(list(ridge.rows_so_far()), rows)
            self.assertEqual(list(itertools.islice(ridge.rows_so_far(), 2)), rows[:2])
            self.assertEqual(list(ridge.rows_so_far()), rows)

    def test_used_twice_at_the_same_time(self):
        for ridge, rows in self.ridges():
            one, two = ridge.rows_so_far(), ridge.rows_so_far()
            self.assertEqual([next(one), next(one), next(two)], [rows[0], rows[1], rows[0]])
            self.assertEqual([next(one), next(two)], [rows[2], rows[1]])
            self.assertEqual([list(one), list(two)], [rows[3:], rows[2:]])
            self.assertEqual([list(one), list(two)], [[], []])

    def test_items_that_change_meanwhile(self):
        for ridge, rows in self.ridges():
            found = []
            for row in ridge.rows_so_far():
                found.append(list(row))
                row.clear()
                row.append(10 ** 9)
            self.assertEqual(found, rows)
            self.assertEqual(list(ridge.rows_so_far()), rows)

    def test_reverted_changes_do_not_count(self):
        for kind in KINDS:
            ridge = kind([3, 1])
            ridge.put(0, 9)
            ridge.undo()
            self.assertEqual(list(ridge.rows_so_far()), [[3, 1]])
            ridge.take(0)
            self.assertEqual(list(ridge.rows_so_far()), [[3, 1], [1]])


class TwinTest(RidgeCase):
    def test_the_same_state(self):
        for kind in KINDS + (Higher,):
            ridge, plain = kind([5, 1, 4]), PlainRidge([5, 1, 4])
            for name, arguments in [("put", [3, 2]), ("peel", [1]), ("put", [0, 6])]:
                twin = ridge.twin()
                self.assertIs(type(twin), kind)
                self.assertIsNot(twin, ridge)
                self.assertEqual(twin, ridge)
                self.check_state(twin, plain)
                self.check_undone(twin, plain.twin())
                self.check_state(ridge, plain)
                do(ridge, name, arguments)
                getattr(plain, name)(*arguments)
            self.check_undone(ridge.twin().twin(), plain.twin())
            self.check_undone(ridge, plain)

    def test_different_ways(self):
        for kind, seed in itertools.product(KINDS, range(25)):
            chance = random.Random(2000 + seed)
            row = drawn_entries(1, 8, 3000 + seed)[0]
            pairs = [(kind(row), PlainRidge(row))]
            for _ in range(60):
                ridge, plain = chance.choice(pairs)
                if len(pairs) < 5 and chance.random() < 0.1:
                    pairs.append((ridge.twin(), plain.twin()))
                name, arguments = drawn_change(plain, chance)
                self.assertEqual(do(ridge, name, arguments), getattr(plain, name)(*arguments))
                for other, other_plain in pairs:
                    self.assertEqual([other.row_now, len(other)], [other_plain.now(), len(other_plain.now())])
                    self.assertEqual(list(other.rows_so_far()), other_plain.rows)
            for ridge, plain in pairs:
                self.check_state(ridge, plain)
            for ridge, plain in pairs:
                self.check_undone(ridge, plain)


class EqualTest(unittest.TestCase):
    def test_ridges_of_any_kind(self):
        rows = [[], [0], [1], [1, 1], [1, 2], [2, 1], [0, 1, 2]]
        for one, two in itertools.product(rows, rows):
            for kind, other_kind in itertools.product(KINDS + (Higher,), KINDS + (Higher,)):
                self.assertIs(kind(one) == other_kind(two), one == two)
                self.assertIs(kind(one) != other_kind(two), one != two)

    def test_only_the_row_counts(self):
        for kind in KINDS:
            ridge = kind([5, 1, 4])
            ridge.peel()
            ridge.put(0, 7)
            self.assertIs(ridge == Ridge([7, 1]), True)
            self.assertIs(SumRidge([7, 1]) == ridge, True)
            ridge.undo()
            self.assertIs(ridge == Ridge([7, 1]), False)
            self.assertIs(ridge == ridge, True)

    def test_other_values(self):
        for kind in KINDS:
            for row in ([], [1], [5, 1, 4]):
                for value in NOTHING + NOT_TEXTS + [row, tuple(row), [row], len(row), plain_text(row), True]:
                    self.assertIs(kind(row) == value, False)
                    self.assertIs(kind(row) != value, True)


class TryPeelTest(RidgeCase):
    def test_from_the_present_row(self):
        for kind in KINDS:
            for row in drawn_rows(20, 60, 115):
                ridge = kind(row)
                ridge.peel(rounds=0)
                before = state_of(ridge)
                numbers = [3, 0, 1, 1, 2, 10 ** 31, 0, 5, 4, 2, 7, 6]
                self.assertEqual(ridge.try_peel(*numbers), [peeled(row, number) for number in numbers])
                self.assertEqual([ridge.try_peel(), state_of(ridge)], [[], before])
