"""How the time of an entry depends on its size."""

from itertools import accumulate

from peakpeel.rows import need_entry, need_place, need_row, rounds_of


def bounded_times(entries):
    """Returns what all entries on one side of a place can do to the time of the entry there.

    They are given from the place on. For each one the tuple of a bound and of its own time is
    returned: it stands in a block of the entry at the place if that one is less than the bound.
    By point 8 its time is then the same as without that entry, and the entry's is greater.
    """
    return list(zip(accumulate(entries, min), rounds_of(entries)))


def time_ranges(row, place):
    """Returns the ranges of integers that give the entry at a place each of its times."""
    need_row(row)
    need_place(place, len(row))
    bounded = bounded_times(row[:place][::-1]) + bounded_times(row[place + 1:])
    ranges = []
    greatest = 0
    high = None
    # The lesser the entry, the more entries stand in its blocks. Of those that come with the
    # same bound, the one with the greatest time comes first and the others do not count.
    for bound, time in sorted(bounded, reverse=True):
        if time > greatest:
            ranges.append((greatest + 1, bound, high))
            greatest = time
            high = bound - 1
    ranges.append((greatest + 1, None, high))
    return ranges


def time_if(row, place, entry):
    """Returns the times of the row with this entry at a place."""
    need_row(row)
    need_place(place, len(row))
    need_entry(entry)
    return rounds_of(row[:place] + [entry] + row[place + 1:])
