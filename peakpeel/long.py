"""Rows that are repeated, however often: a row stands for its copies, one behind the other."""

from peakpeel.checks import need_at_least
from peakpeel.rows import count_left, need_place, need_rounds, need_row, rounds_of

# All copies but the first one and the last one have the same times, so one of them stands for all.
MOST_KEPT = 3


def times_by_copy(row, copies):
    """Returns a list of the times of each copy: of the first, one between and the last, as far as they exist."""
    kept = min(copies, MOST_KEPT)
    times = rounds_of(row * kept)
    return [times[copy * len(row):(copy + 1) * len(row)] for copy in range(kept)]


def need_copies(row, copies):
    """Raises the errors for arguments that do not tell a repeated row."""
    need_row(row)
    need_at_least(copies, 0)


def long_time(row, copies, place):
    """Returns the time of the entry at a place of the repeated row."""
    need_copies(row, copies)
    need_place(place, len(row) * copies)
    copy, own_place = divmod(place, len(row))
    at = -1 if copy == copies - 1 else min(copy, 1)
    return times_by_copy(row, copies)[at][own_place]


def long_left(row, copies, rounds):
    """Returns the number of entries of the repeated row that are left after so many rounds."""
    need_copies(row, copies)
    need_rounds(rounds, 0)
    left = [count_left(times, rounds) for times in times_by_copy(row, copies)]
    if copies <= MOST_KEPT:
        return sum(left)
    return sum(left) + left[1] * (copies - MOST_KEPT)


def long_needed(row, copies):
    """Returns the number of rounds after which the repeated row is empty."""
    need_copies(row, copies)
    return max([max(times, default=0) for times in times_by_copy(row, copies)], default=0)
