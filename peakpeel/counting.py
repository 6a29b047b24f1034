"""How many times there are of each length, and their numbers in the sequence of point 11."""

from itertools import accumulate

from peakpeel.checks import MOST_LENGTH, need_length, need_number
from peakpeel.errors import TooLarge
from peakpeel.times import need_times

# The two kinds of segments: the greatest time of a full one is one less than the greatest time
# of all, that of a low one is lesser still. By point 9 one of the two segments beside each
# greatest time is full, so a low one never comes next behind a low one.
LOW = 0
FULL = 1

# All times of up to so many items are listed once: most segments of longer ones are that short.
MOST_LISTED = 5

# The tables, as soon as they are needed; only `kept_tables` reads and assigns them.
TABLES = None


def firsts_of(counts):
    """Returns the first number of each of several stretches of numbers that follow one another.

    The stretches are given by their sizes. One more number stands last, the sum of all sizes.
    """
    return [0] + list(accumulate(counts))


def stretch_of(firsts, number):
    """Returns which stretch holds a number, for stretches with these first numbers."""
    at = 0
    end = len(firsts) - 1
    while end - at > 1:
        middle = (at + end) // 2
        if firsts[middle] <= number:
            at = middle
        else:
            end = middle
    return at


class Level:
    """The numbers of the times with one and the same greatest time, and of their segments.

    `segments[kind][size]` is the number of segments of a kind and a size, `behind[kind][rest]`
    the number of ways to fill the rest of the items behind a segment of a kind, and
    `exact[length]` the number of times of a length.

    What comes next behind a segment is a choice: the number 2 * size + kind for the next one, so
    that choices ascend in the sequence of point 11. `firsts[kind][rest]` numbers the ways to fill
    the rest by their choices. The first segment is chosen as behind a full one, which forbids
    nothing.
    """

    def __init__(self, low, full):
        self.segments = [low, full]
        self.behind = [[1], [1]]
        self.firsts = [[], []]
        for rest in range(len(low)):
            for kind in (LOW, FULL):
                firsts = firsts_of(self.counts_by_choice(kind, rest))
                self.firsts[kind].append(firsts)
                self.behind[kind].append(firsts[-1])
        # Times begin as if a greatest time and a full segment stood in front of them. But one
        # segment as long as all items leaves no room for a greatest time.
        words = self.behind[FULL][1:]
        self.exact = [many - one - two for many, one, two in zip(words, low, full)]

    def counts_by_choice(self, kind, rest):
        """Returns, for each choice, the number of ways to fill the rest that begin with it."""
        return [
            0 if kind == after == LOW else self.segments[after][size] * self.behind[after][rest - size]
            for size in range(rest + 1)
            for after in (LOW, FULL)
        ]

    def lesser(self, kind, size):
        """Returns how many segments of a size come ahead of all those of a kind."""
        return self.segments[LOW][size] if kind == FULL else 0


def levels_up_to(length):
    """Returns the levels of the greatest times from 1 to a length, for all lengths up to it.

    A greatest time is never greater than the length, as all lesser times stand there too.
    """
    low = [0] * (length + 1)
    full = [1] + [0] * length
    levels = []
    for _ in range(length):
        level = Level(low, full)
        levels.append(level)
        low = [one + two for one, two in zip(low, full)]
        full = level.exact
    return levels


class Tables:
    """All that counting needs to know about the times of each length up to the greatest one.

    `firsts[length]` numbers the times of a length by their greatest times. For short lengths
    `listed_by[length]` has all times, as tuples, and `numbers[times]` the number of each.
    """

    def __init__(self):
        self.levels = levels_up_to(MOST_LENGTH)
        self.firsts = [
            firsts_of([int(length == 0)] + [level.exact[length] for level in self.levels])
            for length in range(MOST_LENGTH + 1)
        ]
        self.listed_by = []
        self.numbers = {}
        for length in range(MOST_LISTED + 1):
            self.add_listed(length)

    def add_listed(self, length):
        """Lists the times of a length, for which no longer ones are needed."""
        every = [tuple(self.times_at(length, number)) for number in range(self.firsts[length][-1])]
        for number, times in enumerate(every):
            self.numbers[times] = number
        self.listed_by.append(every)

    def times_at(self, length, number):
        """Returns the times of a length with a number that exists."""
        if length < len(self.listed_by):
            return list(self.listed_by[length][number])
        most = stretch_of(self.firsts[length], number)
        if most == 0:
            return []
        level = self.levels[most - 1]
        number -= self.firsts[length][most]
        times = []
        kind = FULL
        while True:
            rest = length - len(times)
            firsts = level.firsts[kind][rest]
            choice = stretch_of(firsts, number)
            size, kind = divmod(choice, 2)
            ahead, number = divmod(number - firsts[choice], level.behind[kind][rest - size])
            times.extend(self.times_at(size, level.lesser(kind, size) + ahead))
            if len(times) == length:
                return times
            times.append(most)

    def number_at(self, times):
        """Returns the number of times among those of their length."""
        if len(times) < len(self.listed_by):
            return self.numbers[tuple(times)]
        most = max(times)
        number = self.firsts[len(times)][most]
        level = self.levels[most - 1]
        kind = FULL
        rest = len(times)
        for segment in segments_of(times, most):
            size = len(segment)
            after = FULL if max(segment, default=0) == most - 1 else LOW
            ahead = self.number_at(segment) - level.lesser(after, size)
            number += level.firsts[kind][rest][2 * size + after] + ahead * level.behind[after][rest - size]
            kind = after
            rest -= size + 1
        return number


def kept_tables():
    """Returns the tables. They are worked out once, as this takes far longer than to use them."""
    global TABLES
    if TABLES is None:
        TABLES = Tables()
    return TABLES


def segments_of(times, most):
    """Returns the segments of times with a greatest time."""
    segments = [[]]
    for time in times:
        if time == most:
            segments.append([])
        else:
            segments[-1].append(time)
    return segments


def count_times(length):
    """Returns the number of times of a length."""
    need_length(length)
    return kept_tables().firsts[length][-1]


def count_with(length, most):
    """Returns the number of times of a length with a greatest time."""
    need_length(length)
    need_number(most, MOST_LENGTH)
    firsts = kept_tables().firsts[length]
    return firsts[most + 1] - firsts[most]


def nth_times(length, number):
    """Returns the times of a length with a number."""
    need_number(number, count_times(length) - 1)
    return kept_tables().times_at(length, number)


def times_number(times):
    """Returns the number of times among those of their length."""
    need_times(times)
    if len(times) > MOST_LENGTH:
        raise TooLarge(MOST_LENGTH)
    return kept_tables().number_at(times)


def walk_times(length):
    """Yields all times of a length in their sequence."""
    for number in range(count_times(length)):
        yield kept_tables().times_at(length, number)
