"""Tests of peakpeel.joins: times as objects."""

import random
import unittest

from peakpeel import errors
from peakpeel.joins import Times
from peakpeel.times import is_times, row_with, times_of
from tests.plain import all_times, drawn_rows, plain_times
from tests.wrong import NO_ENTRIES, NOT_INTEGERS, NOT_ROWS, NOTHING, ROWS_NOT_TIMES


def short_times():
    return [times for length in range(5) for times in all_times(length)]


def long_times():
    return [plain_times(row) for row in drawn_rows(40, 90, 81)]


class ExampleTest(unittest.TestCase):
    def test_interface(self):
        one, two = Times([2, 1]), Times([1])
        self.assertEqual(
            [(one + two).listed, (one | two).listed, (two * 3).listed, (one | one)(1), len(one | two), 3 in (one | two),
             (one | two)[2], one == Times([2, 1])],
            [[2, 1, 1], [2, 1, 3, 1], [1, 1, 1], 3, 4, True, 3, True],
        )


class ReadingTest(unittest.TestCase):
    def test_against_lists(self):
        for times in short_times() + long_times():
            one = Times(times)
            self.assertEqual((one.listed, one.highest, len(one)), (times, max(times, default=0), len(times)))
            self.assertIs(type(one.listed), list)
            self.assertEqual([one[index] for index in range(len(times))], times)
            for value in range(-1, max(times, default=0) + 3):
                self.assertIs(value in one, value in times)
            for rounds in range(max(times, default=0) + 3):
                self.assertEqual(one(rounds), len([time for time in times if time > rounds]))
            self.assertEqual([one(10 ** 31), one(0)], [0, len(times)])

    def test_no_times(self):
        none = Times([])
        self.assertEqual([none.listed, none.highest, len(none), none(0), 0 in none], [[], 0, 0, 0, False])
        self.assertEqual([none == Times([]), (none + none).listed, (none | none).listed], [True, [], [1]])
        self.assertEqual([(none * 10 ** 30).listed, (none * 0).listed, (none * 601).listed], [[], [], []])

    def test_any_value_in(self):
        one = Times([1, 2, 1])
        for value in NOTHING + NO_ENTRIES + [True, False, [1], [1, 2, 1], (1,), "1", 0, 3, -1, 10 ** 31]:
            self.assertIs(value in one, False)
        self.assertIs(1 in one, True)
        self.assertIs(True not in one, True)
        self.assertIs(one in one, False)

    def test_iterating(self):
        one = Times([1, 2, 1])
        for use in (iter, list, tuple, sorted, sum, max, set, enumerate, lambda value: [0, *value]):
            with self.assertRaises(TypeError):
                use(one)
            with self.assertRaises(TypeError):
                use(Times([]))
        with self.assertRaises(TypeError):
            for _ in one:
                self.fail("times are not iterated over")


class JoiningTest(unittest.TestCase):
    def check(self, joined, known):
        self.assertIs(type(joined), Times)
        self.assertEqual(joined.listed, known)
        self.assertTrue(is_times(known))
        self.assertEqual(joined, Times(known))
        self.assertEqual((joined.highest, len(joined)), (max(known, default=0), len(known)))

    def pairs(self):
        short, long = short_times()[:16], long_times()
        return [(one, two) for one in short for two in short] + list(zip(long, long[1:] + long[:1]))

    def test_pairs(self):
        for one, two in self.pairs():
            between = max(one + two, default=0) + 1
            self.check(Times(one) + Times(two), one + two)
            self.check(Times(one) | Times(two), one + [between] + two)

    def test_rows_that_are_joined_by_a_lesser_entry(self):
        for row, other in zip(drawn_rows(40, 60, 82), drawn_rows(40, 60, 83)):
            least = min(row + other, default=0) - 1
            joined = Times(times_of(row)) | Times(times_of(other))
            self.assertEqual(joined.listed, plain_times(row + [least] + other))

    def test_rows_of_point_9(self):
        for one, two in self.pairs():
            for joined in (Times(one) + Times(two), Times(one) | Times(two), (Times(one) | Times(two)) * 2):
                self.assertEqual(times_of(row_with(joined.listed)), joined.listed)

    def test_repeated(self):
        for times in short_times() + long_times():
            for number in (0, 1, 2, 3, 600 // max(len(times), 1)):
                self.check(Times(times) * number, times * number)

    def test_limit_of_items(self):
        for times, number in [
            ([1], 600), ([1, 2], 300), ([2, 1, 3], 200), ([1] * 600, 1), ([1] * 70, 8), ([1] * 601, 0),
        ]:
            self.check(Times(times) * number, times * number)
        for times, number in [
            ([1], 601), ([1, 2], 301), ([1] * 70, 9), ([1] * 601, 1), ([1], 10 ** 31), ([2, 1], 10 ** 60),
        ]:
            with self.assertRaises(errors.PeakError) as caught:
                Times(times) * number
            self.assertIs(type(caught.exception), errors.TooLarge)
            self.assertEqual(caught.exception.limit, 600)

    def test_only_repeating_is_limited(self):
        many = Times([2, 1, 3]) * 200
        self.check(many + many, [2, 1, 3] * 400)
        self.check(many | many, [2, 1, 3] * 200 + [4] + [2, 1, 3] * 200)
        self.assertEqual((many + many + many)(2), 600)

    def test_chains(self):
        chance = random.Random(84)
        one, known = Times([]), []
        for _ in range(60):
            other = chance.choice(short_times())
            if chance.random() < 0.3:
                one, known = one | Times(other), known + [max(known + other, default=0) + 1] + other
            else:
                one, known = one + Times(other), known + other
        self.check(one, known)


class EqualTest(unittest.TestCase):
    def test_times(self):
        short = short_times()
        for one in short:
            for two in short:
                self.assertIs(Times(one) == Times(two), one == two)
                self.assertIs(Times(one) != Times(two), one != two)
        self.assertIs(Times([2][1:]) == Times([1]) * 0, True)
        self.assertIs(Times([1]) + Times([1]) == Times([1]) * 2, True)

    def test_other_values(self):
        for times in ([], [1], [1, 2]):
            for value in NOTHING + [times, tuple(times), [times], len(times), True, 1, str(times)]:
                self.assertIs(Times(times) == value, False)
                self.assertIs(Times(times) != value, True)


class NeverChangesTest(unittest.TestCase):
    def test_lists_may_change(self):
        items = [2, 1]
        one = Times(items)
        items.append(7)
        items[0] = None
        self.assertEqual(one.listed, [2, 1])
        one.listed.append(7)
        told = one.listed
        told[0] = 9
        self.assertEqual([one.listed, one.highest, len(one), one[0]], [[2, 1], 2, 2, 2])
        self.assertIsNot(one.listed, one.listed)

    def test_joined_ones_are_independent(self):
        one, two = Times([2, 1]), Times([1])
        for joined in (one + two, one | two, one * 2, one * 1, one + Times([]), Times([]) + one):
            joined.listed.clear()
            self.assertGreater(len(joined), 1)
        self.assertEqual([one.listed, two.listed], [[2, 1], [1]])
        first = one
        one += two
        one |= two
        one *= 2
        self.assertEqual([first.listed, one.listed], [[2, 1], [2, 1, 1, 3, 1] * 2])

    def test_nothing_can_be_assigned(self):
        one = Times([2, 1])
        with self.assertRaises(TypeError):
            one[0] = 1
        with self.assertRaises(TypeError):
            del one[0]
        for name in ("listed", "highest"):
            with self.assertRaises(AttributeError):
                setattr(one, name, [])
        self.assertEqual(one.listed, [2, 1])


class WrongTest(unittest.TestCase):
    def check(self, error, use, *values):
        with self.assertRaises(errors.PeakError) as caught:
            use(*values)
        self.assertIs(type(caught.exception), error)

    def test_items(self):
        for at, value in enumerate(NOT_ROWS + ROWS_NOT_TIMES + [Times([1]), tuple([1, 2])]):
            with self.subTest(at=at):
                self.check(errors.InvalidTimes, Times, value)

    def test_others(self):
        for times in ([], [2, 1]):
            one = Times(times)
            for at, value in enumerate(NOTHING + [True, 0, 1, [], [1], [2, 1], [[1]], times]):
                with self.subTest(at=at):
                    self.check(errors.NotTimes, lambda: one + value)
                    self.check(errors.NotTimes, lambda: one | value)

    def test_numbers_and_indexes(self):
        for times in ([], [2, 1], [1] * 601):
            one = Times(times)
            for at, value in enumerate(NOT_INTEGERS + [-1, -10 ** 31, one, slice(0, 1)]):
                with self.subTest(at=at):
                    self.check(errors.InvalidNumber, lambda: one * value)
                    self.check(errors.InvalidRounds, one, value)
                    self.check(errors.InvalidIndex, lambda: one[value])
            for index in (len(times), len(times) + 1, 10 ** 31, -len(times) - 1, -len(times)):
                if index != 0 or not times:
                    self.check(errors.InvalidIndex, lambda: one[index])

    def test_errors_change_nothing(self):
        one = Times([2, 1, 3])
        for use in (
            lambda: one + [1], lambda: one | [1], lambda: one * -1, lambda: one * 201, lambda: one[3], lambda: one(-1),
        ):
            with self.assertRaises(errors.PeakError):
                use()
            self.assertEqual((one.listed, one.highest, len(one)), ([2, 1, 3], 3, 3))
