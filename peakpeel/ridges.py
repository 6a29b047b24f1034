"""Rows that change, with undo."""

from peakpeel.errors import NothingToUndo, TooLarge
from peakpeel.rows import need_entry, need_place, need_row, peeled, rounds_of
from peakpeel.texts import read_row


class Ridge:
    """A row that changes.

    `_row` is the present row. `_changes` are the changes that were not reverted: each one is the
    tuple of the row ahead of it and of the sum of the entries that vanished by it in rounds. These
    rows never change, as each new row is a new list: so twins may share them.
    """

    MOST = 60

    def __init__(self, row=None):
        entries = [] if row is None else row
        need_row(entries)
        if len(entries) > self.MOST:
            raise TooLarge(self.MOST)
        self._row = list(entries)
        self._changes = []

    @classmethod
    def read(cls, text):
        """Returns a ridge of this class with the row of a text."""
        return cls(read_row(text))

    @classmethod
    def _without_entries(cls):
        """Returns a new ridge of this class, which only a class method can call."""
        return cls()

    def _change_to(self, row, gone=0):
        """Replaces the row by a new list, as a change; `gone` is the sum of what vanished in rounds."""
        self._changes.append((self._row, gone))
        self._row = row

    def put(self, place, entry):
        """Puts an entry in front of the one at a place, or behind all; returns the number of entries."""
        need_place(place, len(self._row) + 1)
        need_entry(entry)
        if len(self._row) >= self.MOST:
            raise TooLarge(self.MOST)
        self._change_to(self._row[:place] + [entry] + self._row[place:])
        return len(self._row)

    def take(self, place):
        """Removes the entry at a place and returns it."""
        need_place(place, len(self._row))
        entry = self._row[place]
        self._change_to(self._row[:place] + self._row[place + 1:])
        return entry

    def change(self, place, entry):
        """Replaces the entry at a place and returns the old one."""
        need_place(place, len(self._row))
        need_entry(entry)
        old = self._row[place]
        self._change_to(self._row[:place] + [entry] + self._row[place + 1:])
        return old

    def peel(self, *, rounds=1):
        """Plays so many rounds, as one change, and returns the number of entries that vanish."""
        left = peeled(self._row, rounds)
        vanished = len(self._row) - len(left)
        self._change_to(left, sum(self._row) - sum(left))
        return vanished

    def undo(self):
        """Reverts the last change that was not reverted."""
        if not self._changes:
            raise NothingToUndo("no change is left that could be reverted")
        self._row = self._changes.pop()[0]

    def try_peel(self, *rounds):
        """Returns the list of the rows after so many rounds for each argument; changes nothing."""
        return [peeled(self._row, number) for number in rounds]

    @property
    def row_now(self):
        """The row."""
        return list(self._row)

    @property
    def times_now(self):
        """The times of the row."""
        return rounds_of(self._row)

    def rows_so_far(self):
        """Yields the first row and the row after each change that was not reverted."""
        earlier = [row for row, _ in self._changes]
        for row in earlier + [self._row]:
            yield list(row)

    def twin(self):
        """Returns an independent ridge of the same class in the same state, with the same changes to undo."""
        other = self._without_entries()
        other._row = self._row
        other._changes = list(self._changes)
        return other

    def __len__(self):
        return len(self._row)

    def __eq__(self, other):
        return isinstance(other, Ridge) and self._row == other._row


class SumRidge(Ridge):
    """A ridge that tells the sum of what vanished in its rounds as well."""

    # It stands here, too, as the interface lists it for this class.
    def __init__(self, row=None):
        super().__init__(row)

    @property
    def sum_now(self):
        """The sum of all entries that vanished by calls of `peel` that were not reverted."""
        return sum([gone for _, gone in self._changes])
