"""The times of rows, and what times tell about the entries."""

from peakpeel.errors import InvalidPlace, InvalidTimes
from peakpeel.rows import is_row, need_place, need_rounds, need_row, rounds_of


def times_of(row):
    """Returns the times of a row."""
    need_row(row)
    return rounds_of(row)


def rounds_needed(row):
    """Returns the least number of rounds after which the row is empty."""
    return max(times_of(row), default=0)


def places_in_round(row, rounds):
    """Returns the ascending list of the places that vanish in the round with a number."""
    need_row(row)
    need_rounds(rounds, 1)
    return [place for place, time in enumerate(rounds_of(row)) if time == rounds]


def is_times(value):
    """Returns whether any value is the times of some row."""
    # By point 9 they are the times of the row with the opposite numbers, or of no row at all.
    return is_row(value) and rounds_of([-item for item in value]) == value


def need_times(times):
    """Raises InvalidTimes for any value that is not the times of some row."""
    if not is_times(times):
        raise InvalidTimes("not the times of a row")


def row_with(times):
    """Returns the row that has, for each time, the greatest time less this time."""
    need_times(times)
    greatest = max(times, default=0)
    return [greatest - time for time in times]


def relation(times, place, other):
    """Returns how the entry at a place stands to another one in every row with these times."""
    need_times(times)
    need_place(place, len(times))
    need_place(other, len(times))
    if place == other:
        raise InvalidPlace("twice the same place")
    one = times[place]
    two = times[other]
    between = times[min(place, other) + 1:max(place, other)]
    if max(one, two) < max(between, default=0):
        return "open"
    if one == two:
        return "="
    return "<=" if one > two else ">="
