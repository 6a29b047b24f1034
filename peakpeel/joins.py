"""Times as objects that can be joined and repeated."""

from peakpeel.checks import is_an_integer, is_within, need_at_least
from peakpeel.errors import InvalidIndex, NotTimes, TooLarge
from peakpeel.rows import count_left, need_rounds
from peakpeel.times import need_times

# The greatest number of items that repeated times may have.
MOST_REPEATED = 600


def need_joinable(value):
    """Raises NotTimes for any value that is not a Times."""
    if not isinstance(value, Times):
        raise NotTimes("not a Times")


def made(items):
    """Returns a Times with these items, a new list, that surely are times.

    Joined and repeated times are times. To find that out again takes long if they are many.
    """
    times = Times([])
    times._items = items
    return times


class Times:
    """Times as an object that never changes."""

    def __init__(self, items):
        need_times(items)
        self._items = list(items)

    @property
    def listed(self):
        """The list of all items."""
        return list(self._items)

    @property
    def highest(self):
        """The greatest time, 0 for no times."""
        return max(self._items, default=0)

    def __add__(self, other):
        need_joinable(other)
        return made(self._items + other._items)

    def __or__(self, other):
        need_joinable(other)
        return made(self._items + [max(self.highest, other.highest) + 1] + other._items)

    def __mul__(self, other):
        need_at_least(other, 0)
        if len(self._items) * other > MOST_REPEATED:
            raise TooLarge(MOST_REPEATED)
        # Without items any number is allowed, but Python repeats no list 10 ** 30 times.
        return made(self._items * min(other, MOST_REPEATED))

    def __len__(self):
        return len(self._items)

    def __getitem__(self, at):
        if not is_within(at, 0, len(self._items) - 1):
            raise InvalidIndex("not the index of an item")
        return self._items[at]

    def __contains__(self, x):
        # True is equal to 1, but it is no integer.
        return is_an_integer(x) and x in self._items

    def __iter__(self):
        raise TypeError("times are not iterated over: take the property listed")

    def __eq__(self, other):
        return isinstance(other, Times) and self._items == other._items

    def __call__(self, rounds):
        """Returns how many entries are left after so many rounds."""
        need_rounds(rounds, 0)
        return count_left(self._items, rounds)
