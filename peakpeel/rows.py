"""Rows, their peaks, their rounds and the blocks of their entries."""

from peakpeel.checks import is_at_least, is_an_integer, is_within
from peakpeel.errors import InvalidEntry, InvalidPlace, InvalidRounds, InvalidRow


def is_row(value):
    """Returns whether any value is a row."""
    return isinstance(value, list) and all([is_an_integer(item) for item in value])


def need_row(row):
    """Raises InvalidRow for any value that is not a row."""
    if not is_row(row):
        raise InvalidRow("not a list of integers")


def need_place(place, size):
    """Raises InvalidPlace for any value that is not a place of a list with so many items."""
    if not is_within(place, 0, size - 1):
        raise InvalidPlace("not a place of the list")


def need_rounds(rounds, least):
    """Raises InvalidRounds for any value that is not an integer from `least` on."""
    if not is_at_least(rounds, least):
        raise InvalidRounds(f"not an integer from {least} on")


def need_entry(entry):
    """Raises InvalidEntry for any value that is not an integer."""
    if not is_an_integer(entry):
        raise InvalidEntry("not an integer")


def is_peak(row, place):
    """Returns whether the entry at a place is a peak."""
    # At an end of the row the entry itself stands for the missing neighbour.
    front = row[max(place - 1, 0)]
    behind = row[min(place + 1, len(row) - 1)]
    return front <= row[place] and behind <= row[place]


def peaks_of(row):
    """Returns the ascending list of the places of all peaks."""
    need_row(row)
    return [place for place in range(len(row)) if is_peak(row, place)]


def rounds_of(row):
    """Returns the list of the rounds that remove the entries of a row.

    By point 8 the round of an entry is 1 plus the greatest one in its blocks. So no round has
    to be played, and a long row needs no more than a few steps for each entry.
    """
    # An additional last entry, less than all others, ends all blocks that are not yet ended.
    entries = row + [min(row, default=0) - 1]
    rounds = [0] * len(entries)
    waiting = []
    for place, entry in enumerate(entries):
        greatest = 0
        while waiting and entries[waiting[-1]] > entry:
            ended = waiting.pop()
            greatest = max(greatest, rounds[ended])
            # Equal entries wait beside one another, but neither stands in a block of the other.
            if waiting and entries[waiting[-1]] < entries[ended]:
                rounds[waiting[-1]] = max(rounds[waiting[-1]], greatest + 1)
        rounds[place] = greatest + 1
        waiting.append(place)
    return rounds[:-1]


def peeled(row, rounds):
    """Returns the row after so many rounds."""
    need_row(row)
    need_rounds(rounds, 0)
    return [entry for entry, last in zip(row, rounds_of(row)) if last > rounds]


def count_left(times, rounds):
    """Returns how many entries with these times are left after so many rounds."""
    return len([time for time in times if time > rounds])


def peel_steps(row):
    """Yields the row, and then the row after each round, up to the empty row."""
    need_row(row)
    left = list(row)
    # The copies are given away: who changes one does not change the rounds to come.
    yield list(left)
    while left:
        left = [entry for place, entry in enumerate(left) if not is_peak(left, place)]
        yield list(left)


def greater_ahead(entries, entry):
    """Returns how many entries at the beginning of a list are greater than an entry."""
    for count, other in enumerate(entries):
        if other <= entry:
            return count
    return len(entries)


def block_sizes(row, place):
    """Returns the numbers of entries of the left and of the right block of an entry."""
    need_row(row)
    need_place(place, len(row))
    left = greater_ahead(row[:place][::-1], row[place])
    right = greater_ahead(row[place + 1:], row[place])
    return left, right
