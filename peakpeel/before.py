"""The rows ahead of a round.

In a row before another one stand the entries of that one, in their sequence, and peaks. The peaks
stand in gaps: between two neighbours of these entries, in front of all and behind all. The peaks
of one gap are equal, and none is less than an entry beside them. Each other entry has a greater
neighbour, in front of it or behind it.
"""

from itertools import accumulate

from peakpeel.checks import is_within, need_at_least, need_length
from peakpeel.errors import TooLarge
from peakpeel.rows import need_row

MOST_ROWS = 1000

# Whether the entry in front of a gap has a greater neighbour on its other side.
BARE = 0
SAFE = 1


class Gap:
    """What can stand between two entries; 0 stands for the one that is missing at an end.

    Low peaks are equal to the greater one of the two entries. With them, and also without any
    peak, the lesser entry has a greater neighbour on this side and the other one has none. High
    peaks are greater than both entries, and both have a greater neighbour.
    """

    def __init__(self, front, behind, below):
        self.low = max(front, behind)
        self.below = below
        self.low_saves_front = front < behind
        self.after_low = SAFE if behind < front else BARE

    def counts_from(self, behind):
        """Returns the numbers of ways to put peaks into this gap and all gaps behind it.

        The list has a list for a bare entry in front of the gap and one for a safe one, each with
        the numbers for 0, 1, 2 and more peaks; `behind` is this list for the next gap.
        """
        # Each number of peaks here leaves another one for the gaps behind, which makes it a sum.
        sums = [list(accumulate(counts)) for counts in behind]
        high_peaks = self.below - 1 - self.low
        high = [0] + [high_peaks * count for count in sums[SAFE][:-1]]
        safe = [one + two for one, two in zip(sums[self.after_low], high)]
        return [safe if self.low_saves_front else high, safe]

    def fillings(self, state, left, behind):
        """Returns what can be put into this gap if so many peaks are left and all must be used.

        Each item is the tuple of a list of peaks and of the state of the entry behind the gap;
        `state` is that of the entry in front, and `behind` as for `counts_from`.
        """
        found = []
        for many in range(left + 1):
            rest = left - many
            if (state == SAFE or self.low_saves_front) and behind[self.after_low][rest] > 0:
                found.append(([self.low] * many, self.after_low))
            if many > 0 and behind[SAFE][rest] > 0:
                found.extend([([peak] * many, SAFE) for peak in range(self.low + 1, self.below)])
        return found


class Search:
    """The search for the rows with `length` entries before a row, which may exist."""

    def __init__(self, row, length, below):
        self.row = row
        self.peaks = length - len(row)
        self.gaps = [Gap(front, behind, below) for front, behind in zip([0] + row, row + [0])]
        only_none = [1] + [0] * self.peaks
        counts = [[only_none, only_none]]
        for gap in self.gaps[::-1]:
            counts.append(gap.counts_from(counts[-1]))
        self.counts = counts[::-1]
        self.kept = {}

    def total(self):
        """Returns the number of rows."""
        return self.counts[0][SAFE][self.peaks]

    def ends(self, at, state, left):
        """Returns the list of all that can stand from a gap on, for the state of the entry ahead.

        So many peaks are left. Many rows end alike, so the answers are kept. They are asked for
        only where a row begins so: for each gap there are never more ends than rows.
        """
        if at == len(self.gaps):
            return [[]]
        key = (at, state, left)
        if key not in self.kept:
            self.kept[key] = [
                filling + self.row[at:at + 1] + end
                for filling, after in self.gaps[at].fillings(state, left, self.counts[at + 1])
                for end in self.ends(at + 1, after, left - len(filling))
            ]
        return self.kept[key]

    def rows(self):
        """Returns the ascending list of all rows."""
        return sorted(self.ends(0, SAFE, self.peaks))


def need_before(row, length, below):
    """Raises the errors for arguments that do not tell which rows are asked for."""
    need_row(row)
    need_length(length)
    need_at_least(below, 1)


def is_possible(row, length, below):
    """Returns whether a row is short enough and of such entries that rows before it may exist."""
    return len(row) <= length and all([is_within(entry, 0, below - 1) for entry in row])


def count_before(row, length, below):
    """Returns the number of rows before a row."""
    need_before(row, length, below)
    return Search(row, length, below).total() if is_possible(row, length, below) else 0


def rows_before(row, length, below):
    """Returns the ascending list of the rows before a row."""
    need_before(row, length, below)
    if not is_possible(row, length, below):
        return []
    search = Search(row, length, below)
    if search.total() > MOST_ROWS:
        raise TooLarge(MOST_ROWS)
    return search.rows()
