"""Tests of the errors of peakpeel.ridges: point 5."""

import unittest

from peakpeel import errors
from peakpeel.ridges import Ridge, SumRidge
from tests.model import state_of
from tests.plain import plain_text
from tests.wrong import NOT_INTEGERS, NOT_ROWS, NOT_TEXTS, WRONG_TEXTS

KINDS = (Ridge, SumRidge)


class WrongTest(unittest.TestCase):
    """Wrong arguments, one or several at the same time: the first error of the interface, and no change."""

    WRONG_PLACES = NOT_INTEGERS + [-1, -5, 6, 7, 10 ** 31, -10 ** 31]
    WRONG_ROUNDS = NOT_INTEGERS + [-1, -10 ** 31]

    def changed(self, kind, more=0):
        """A ridge of five entries, or more, with changes to undo."""
        ridge = kind([9, 1, 4, 2, 3] + [6] * more)
        ridge.change(0, 5)
        ridge.take(4)
        ridge.peel(rounds=0)
        ridge.put(4, 7)
        return ridge

    def check(self, ridge, error, use, *values):
        before = state_of(ridge)
        with self.assertRaises(errors.PeakError) as caught:
            use(*values)
        self.assertIs(type(caught.exception), error)
        self.assertEqual(state_of(ridge), before)
        return caught.exception

    def test_rows(self):
        for kind in KINDS:
            for at, value in enumerate(NOT_ROWS + [[True] * 61, [1] * 70 + [None], tuple([1] * 61), Ridge([1])]):
                if value is not None:
                    with self.subTest(at=at):
                        with self.assertRaises(errors.PeakError) as caught:
                            kind(value)
                        self.assertIs(type(caught.exception), errors.InvalidRow)

    def test_texts(self):
        too_many = plain_text([1] * 61)
        for kind in KINDS:
            for at, value in enumerate(NOT_TEXTS + WRONG_TEXTS + [too_many + " x", too_many + " ", "0" + too_many]):
                with self.subTest(at=at):
                    with self.assertRaises(errors.PeakError) as caught:
                        kind.read(value)
                    self.assertIs(type(caught.exception), errors.InvalidText)

    def test_put(self):
        for kind in KINDS:
            ridge, full = self.changed(kind), self.changed(kind, 55)
            self.assertEqual([len(ridge), len(full)], [5, 60])
            for at, place in enumerate(self.WRONG_PLACES):
                with self.subTest(at=at):
                    for entry in (0, None, True, "1"):
                        self.check(ridge, errors.InvalidPlace, ridge.put, place, entry)
            for at, place in enumerate(NOT_INTEGERS + [-1, 61, 10 ** 31]):
                for entry in (0, None):
                    self.check(full, errors.InvalidPlace, full.put, place, entry)
            for at, entry in enumerate(NOT_INTEGERS):
                with self.subTest(at=at):
                    self.check(ridge, errors.InvalidEntry, ridge.put, 5, entry)
                    self.check(full, errors.InvalidEntry, full.put, 60, entry)
            for place in (0, 60):
                self.assertEqual(self.check(full, errors.TooLarge, full.put, place, 10 ** 31).limit, 60)

    def test_take_and_change(self):
        for kind in KINDS:
            ridge, full, empty = self.changed(kind), self.changed(kind, 55), kind()
            for at, place in enumerate(self.WRONG_PLACES + [5]):
                with self.subTest(at=at):
                    self.check(ridge, errors.InvalidPlace, ridge.take, place)
                    for entry in (0, None, True, "1"):
                        self.check(ridge, errors.InvalidPlace, ridge.change, place, entry)
                    self.check(empty, errors.InvalidPlace, empty.take, place)
                    self.check(empty, errors.InvalidPlace, empty.change, place, 1)
            for at, entry in enumerate(NOT_INTEGERS):
                with self.subTest(at=at):
                    self.check(ridge, errors.InvalidEntry, ridge.change, 4, entry)
                    self.check(full, errors.InvalidEntry, full.change, 59, entry)
            self.check(empty, errors.InvalidPlace, empty.take, 0)
            self.check(empty, errors.InvalidPlace, empty.change, 0, None)

    def test_rounds(self):
        for kind in KINDS:
            ridge = self.changed(kind)
            for at, rounds in enumerate(self.WRONG_ROUNDS):
                with self.subTest(at=at):
                    self.check(ridge, errors.InvalidRounds, lambda: ridge.peel(rounds=rounds))
                    self.check(kind(), errors.InvalidRounds, lambda: kind().peel(rounds=rounds))
                    for arguments in ([rounds], [rounds, 1], [1, rounds], [0] * 11 + [rounds], [rounds, 0, rounds]):
                        self.check(ridge, errors.InvalidRounds, ridge.try_peel, *arguments)
                        self.check(kind(), errors.InvalidRounds, kind().try_peel, *arguments)

    def test_nothing_to_undo(self):
        for kind in KINDS:
            for ridge in (kind(), kind([5, 1]), kind.read("5 1"), kind([5, 1]).twin()):
                self.check(ridge, errors.NothingToUndo, ridge.undo)
            ridge = kind([5, 1])
            self.check(ridge, errors.InvalidPlace, ridge.put, 3, 1)
            self.check(ridge, errors.NothingToUndo, ridge.undo)
            ridge.try_peel(0, 1)
            self.check(ridge, errors.NothingToUndo, ridge.undo)

    def test_undo_goes_on_behind_errors(self):
        for kind in KINDS:
            ridge = kind([3, 1])
            ridge.put(2, 2)
            self.check(ridge, errors.InvalidEntry, ridge.put, 0, None)
            ridge.peel()
            self.check(ridge, errors.InvalidPlace, ridge.take, 1)
            self.assertEqual(list(ridge.rows_so_far()), [[3, 1], [3, 1, 2], [1]])
            ridge.undo()
            self.assertEqual(ridge.row_now, [3, 1, 2])
            ridge.undo()
            self.check(ridge, errors.NothingToUndo, ridge.undo)

    def test_properties_cannot_be_assigned(self):
        ridge = SumRidge([3, 1])
        for name in ("row_now", "times_now", "sum_now"):
            with self.assertRaises(AttributeError):
                setattr(ridge, name, [])
        self.assertEqual(state_of(ridge), [[3, 1], [1, 2], 2, [[3, 1]], [0]])
