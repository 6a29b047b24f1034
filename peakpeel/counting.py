"""How many times there are of each length, and their numbers in the sequence of point 11."""

from peakpeel.checks import is_within
from peakpeel.errors import InvalidNumber, TooLarge
from peakpeel.times import need_times

MOST_ITEMS = 40

# The two kinds of segments: the greatest time of a full one is one less than the greatest time
# of all, that of a low one is lesser still. By point 9 one of the two segments beside each
# greatest time is full, so a low one never comes next behind a low one.
LOW = 0
FULL = 1


class Level:
    """The numbers of the times with one and the same greatest time, and of their segments.

    `segments[kind][size]` is the number of segments of a kind and a size, `behind[kind][rest]`
    the number of ways to fill the rest of the items behind a segment of a kind, and
    `exact[length]` the number of times of a length.
    """

    def __init__(self, low, full):
        self.segments = [low, full]
        self.behind = [[1], [1]]
        for rest in range(len(low)):
            for kind in (LOW, FULL):
                self.behind[kind].append(self.ways(kind, rest))
        # Times begin as if a greatest time and a full segment stood in front of them. But one
        # segment as long as all items leaves no room for a greatest time.
        firsts = self.behind[FULL][1:]
        self.exact = [many - one - two for many, one, two in zip(firsts, low, full)]

    def blocks(self, kind, rest):
        """Returns what can come next, in so many items, behind a segment of a kind.

        The list has, in the sequence of point 11, for each size and kind of the next segment
        the tuple of both and of the number of ways to choose it and all that comes after it.
        The first segment is chosen as behind a full one, which forbids nothing.
        """
        kinds = (FULL,) if kind == LOW else (LOW, FULL)
        return [
            (size, after, self.segments[after][size] * self.behind[after][rest - size])
            for size in range(rest + 1)
            for after in kinds
        ]

    def ways(self, kind, rest):
        """Returns the number of all ways that `blocks` tells."""
        return sum([many for size, after, many in self.blocks(kind, rest)])

    def lesser(self, kind, size):
        """Returns how many segments of a size come ahead of all those of a kind."""
        return self.segments[LOW][size] if kind == FULL else 0


def levels_for(length):
    """Returns the levels of the greatest times from 1 to a length, for all lengths up to it.

    A greatest time is never greater than the length, as all lesser times stand there too.
    """
    low = [0] * (length + 1)
    full = [1] + [0] * length
    levels = []
    for _ in range(length):
        level = Level(low, full)
        levels.append(level)
        low = [one + two for one, two in zip(low, full)]
        full = level.exact
    return levels


def counts_by_most(levels, length):
    """Returns the numbers of the times of a length whose greatest time is 0, 1, 2 and so on."""
    return [int(length == 0)] + [level.exact[length] for level in levels]


def need_number(number, most):
    """Raises InvalidNumber for any value that is not an integer from 0 to `most`."""
    if not is_within(number, 0, most):
        raise InvalidNumber(f"not an integer from 0 to {most}")


def count_times(length):
    """Returns the number of times of a length."""
    need_number(length, MOST_ITEMS)
    return sum(counts_by_most(levels_for(length), length))


def count_with(length, most):
    """Returns the number of times of a length with a greatest time."""
    need_number(length, MOST_ITEMS)
    need_number(most, MOST_ITEMS)
    counts = counts_by_most(levels_for(length), length)
    return counts[most] if most < len(counts) else 0


def stretch_of(counts, number):
    """Returns which of several stretches of numbers holds a number, and its number in there."""
    at = 0
    while number >= counts[at]:
        number -= counts[at]
        at += 1
    return at, number


def times_at(levels, length, number):
    """Returns the times of a length with a number that exists."""
    most, number = stretch_of(counts_by_most(levels, length), number)
    if most == 0:
        return []
    level = levels[most - 1]
    times = []
    kind = FULL
    while True:
        rest = length - len(times)
        blocks = level.blocks(kind, rest)
        at, number = stretch_of([many for size, after, many in blocks], number)
        size, kind, _ = blocks[at]
        ahead, number = divmod(number, level.behind[kind][rest - size])
        times.extend(times_at(levels, size, level.lesser(kind, size) + ahead))
        if len(times) == length:
            return times
        times.append(most)


def nth_times(length, number):
    """Returns the times of a length with a number."""
    need_number(length, MOST_ITEMS)
    levels = levels_for(length)
    need_number(number, sum(counts_by_most(levels, length)) - 1)
    return times_at(levels, length, number)


def segments_of(times, most):
    """Returns the segments of times with a greatest time."""
    segments = [[]]
    for time in times:
        if time == most:
            segments.append([])
        else:
            segments[-1].append(time)
    return segments


def number_at(levels, times):
    """Returns the number of times among those of their length."""
    if not times:
        return 0
    most = max(times)
    level = levels[most - 1]
    number = sum(counts_by_most(levels, len(times))[:most])
    kind = FULL
    rest = len(times)
    for segment in segments_of(times, most):
        size = len(segment)
        after = FULL if max(segment, default=0) == most - 1 else LOW
        for length, next_kind, many in level.blocks(kind, rest):
            if (length, next_kind) < (size, after):
                number += many
        ahead = number_at(levels, segment) - level.lesser(after, size)
        number += ahead * level.behind[after][rest - size]
        kind = after
        rest -= size + 1
    return number


def times_number(times):
    """Returns the number of times among those of their length."""
    need_times(times)
    if len(times) > MOST_ITEMS:
        raise TooLarge(MOST_ITEMS)
    return number_at(levels_for(len(times)), times)


def walk_times(length):
    """Yields all times of a length in their sequence."""
    need_number(length, MOST_ITEMS)
    levels = levels_for(length)
    for number in range(sum(counts_by_most(levels, length))):
        yield times_at(levels, length, number)
