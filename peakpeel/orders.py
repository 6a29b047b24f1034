"""The orders with given times: points 12 and 13."""

from math import comb, factorial

from peakpeel.checks import MOST_LENGTH, need_length, need_number
from peakpeel.errors import NotClear, NotOrder
from peakpeel.rows import is_row, need_place, need_rounds, rounds_of
from peakpeel.times import need_times

# The counts by height, as soon as they are needed; only `kept_heights` reads and assigns them.
HEIGHTS = None


def last_not_less(times):
    """Returns for each place the last one in front of it with no lesser time, -1 for none."""
    found = []
    waiting = []
    for place, time in enumerate(times):
        while waiting and times[waiting[-1]] < time:
            waiting.pop()
        found.append(waiting[-1] if waiting else -1)
        waiting.append(place)
    return found


def are_clear(times):
    """Returns whether times, which surely are times, are clear."""
    fronts = last_not_less(times)
    return all([front == -1 or times[front] > time for front, time in zip(fronts, times)])


def is_clear(times):
    """Returns whether times are clear."""
    need_times(times)
    return are_clear(times)


def need_clear(times):
    """Raises NotClear for times that are not clear."""
    if not are_clear(times):
        raise NotClear("two equal times without a greater one between")


class Tree:
    """The tree of clear times.

    The family of a place goes from `first[place]` up to the place in front of `end[place]`.
    """

    def __init__(self, times):
        self.times = list(times)
        fronts = last_not_less(times)
        behinds = last_not_less(times[::-1])[::-1]
        self.first = [front + 1 for front in fronts]
        self.end = [len(times) - 1 - behind for behind in behinds]

    def size(self, place):
        """Returns the length of the family of a place."""
        return self.end[place] - self.first[place]

    def parent(self, place):
        """Returns the place above a place, None for the root.

        A family without its root is the families of the places that stand directly below. So the
        parent is beside the family, and the lesser one of two such times.
        """
        front = self.first[place] - 1
        behind = self.end[place]
        if front == -1 and behind == len(self.times):
            return None
        if front == -1 or (behind < len(self.times) and self.times[behind] < self.times[front]):
            return behind
        return front


def count_for(tree):
    """Returns the number of orders with a tree."""
    count = factorial(len(tree.times))
    for place in range(len(tree.times)):
        count //= tree.size(place)
    return count


class Remainder:
    """The places of a tree that no integer is given to so far, and the number of ways to go on.

    A place can be next if the one above it is given. The families of these places follow one
    another and are all that is left; the share of a place in the ways to go on is that of its
    family in the places that are left (point 13).
    """

    def __init__(self, tree):
        self.tree = tree
        self.ways = count_for(tree)
        self.left = list(range(len(tree.times)))

    def ahead(self, place):
        """Returns the number of the ways that go on with a lesser place than this next one."""
        return self.ways * self.left.index(self.tree.first[place]) // len(self.left)

    def take(self, place):
        """Gives the next integer to a place that can be next."""
        self.ways = self.ways * self.tree.size(place) // len(self.left)
        self.left.remove(place)


def parent_of(times, place):
    """Returns the place directly above a place in the tree, None for the root."""
    need_times(times)
    need_place(place, len(times))
    need_clear(times)
    return Tree(times).parent(place)


def count_orders(times):
    """Returns the number of orders with these times."""
    need_times(times)
    need_clear(times)
    return count_for(Tree(times))


def nth_order(times, number):
    """Returns the order with a number among those with these times."""
    need_times(times)
    need_clear(times)
    tree = Tree(times)
    remainder = Remainder(tree)
    need_number(number, remainder.ways - 1)
    order = [None] * len(times)
    for integer in range(len(times)):
        place = remainder.left[number * len(remainder.left) // remainder.ways]
        above = tree.parent(place)
        while above is not None and order[above] is None:
            place = above
            above = tree.parent(place)
        number -= remainder.ahead(place)
        order[place] = integer
        remainder.take(place)
    return order


def is_order(value):
    """Returns whether any value is an order."""
    return is_row(value) and sorted(value) == list(range(len(value)))


def order_number(order):
    """Returns the number of an order among those with its times."""
    if not is_order(order):
        raise NotOrder("not a list of the integers from 0 on, each once")
    places = [0] * len(order)
    for place, integer in enumerate(order):
        places[integer] = place
    remainder = Remainder(Tree(rounds_of(order)))
    number = 0
    for place in places:
        number += remainder.ahead(place)
        remainder.take(place)
    return number


def next_height(counts):
    """Returns how many orders of each length have a tree that is at most one higher.

    The item with the index n of both lists is for the length n. Some of the greater integers
    stand in front of the 0 and form a tree below it, the others stand behind it and do likewise.
    """
    return [1] + [
        sum([comb(size - 1, front) * counts[front] * counts[size - 1 - front] for front in range(size)])
        for size in range(1, len(counts))
    ]


class Heights:
    """How many orders there are: `counts[rounds][length]` are empty after so many rounds."""

    def __init__(self, most):
        self.counts = [[1] + [0] * most]
        for _ in range(most):
            self.counts.append(next_height(self.counts[-1]))


def kept_heights():
    """Returns the counts by height, worked out once, as this takes far longer than to use them."""
    global HEIGHTS
    if HEIGHTS is None:
        HEIGHTS = Heights(MOST_LENGTH)
    return HEIGHTS


def count_within(length, rounds):
    """Returns the number of orders of a length that are empty after so many rounds."""
    need_length(length)
    need_rounds(rounds, 0)
    # A tree is never higher than its entries are many.
    return kept_heights().counts[min(rounds, length)][length]
