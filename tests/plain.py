"""The words of the document as plainly as possible, to compare the package with.

Nothing here imports the package.
"""

import functools
import itertools
import random
import re

# The text of an integer (point 14); the form of the text of a row.
NUMBER = "(?:0|-?[1-9][0-9]*)"
ROW_TEXT = re.compile(f"-|{NUMBER}(?: {NUMBER})*")


def plain_peaks(row):
    """The places of the entries that are not less than any neighbour (point 7)."""
    peaks = []
    for place, entry in enumerate(row):
        neighbours = []
        if place > 0:
            neighbours.append(row[place - 1])
        if place < len(row) - 1:
            neighbours.append(row[place + 1])
        if not [other for other in neighbours if entry < other]:
            peaks.append(place)
    return peaks


def plain_rows(row):
    """The row after 0, 1, 2 .. rounds, up to the empty row."""
    rows = [list(row)]
    while rows[-1]:
        peaks = plain_peaks(rows[-1])
        rows.append([entry for place, entry in enumerate(rows[-1]) if place not in peaks])
    return rows


def plain_times(row):
    """The round in which each entry vanishes, by playing with the places of the entries."""
    times = [None] * len(row)
    places = list(range(len(row)))
    played = 0
    while places:
        played += 1
        peaks = plain_peaks([row[place] for place in places])
        for peak in peaks:
            times[places[peak]] = played
        places = [place for at, place in enumerate(places) if at not in peaks]
    return times


def plain_blocks(row, place):
    """The left and the right block of an entry (point 8), both as they stand in the row."""
    first = place
    while first > 0 and row[first - 1] > row[place]:
        first -= 1
    last = place
    while last < len(row) - 1 and row[last + 1] > row[place]:
        last += 1
    return row[first:place], row[place + 1:last + 1]


def block_times(row):
    """The times by the second sentence of point 8: from the times of the blocks alone."""
    times = []
    for place in range(len(row)):
        left, right = plain_blocks(row, place)
        times.append(1 + max(block_times(left) + block_times(right), default=0))
    return times


def plain_is_times(items):
    """The second sentence of point 9, for a list of integers."""
    opposite = [-item for item in items]
    for place, item in enumerate(items):
        stretches = [-other for block in plain_blocks(opposite, place) for other in block]
        if item < 1 or (item > 1 and item - 1 not in stretches):
            return False
    return True


def all_rows(length, below):
    """All rows of a length with entries from 0 to `below` - 1."""
    return [list(row) for row in itertools.product(range(below), repeat=length)]


def sequence_key(times):
    """Sorts times of the same length as point 11 says."""
    greatest = max(times, default=0)
    segments = [[]]
    for time in times:
        if time == greatest:
            segments.append([])
        else:
            segments[-1].append(time)
    if not times:
        return 0, ()
    return greatest, tuple((len(segment), sequence_key(segment)) for segment in segments)


@functools.cache
def times_tuples(length):
    """All times of a length, in their sequence: those of all rows with so many numbers."""
    found = {tuple(plain_times(row)) for row in all_rows(length, length)}
    return tuple(sorted(found, key=sequence_key))


def all_times(length):
    """All times of a length in the sequence of point 11, as new lists."""
    return [list(times) for times in times_tuples(length)]


def counts_by_series(most_items):
    """Counts times by their segments: the answer's item [m][n] is for the greatest time m.

    Times with the greatest time m are words of full and low segments (full: with m - 1), with an
    m between each two, and no two low ones side by side. So, with x for one item and F and L for
    the series of full and of low segments, all words are (1 + xL) F (1 + xL) / (1 - xF - xxLF)
    and L; without those of one segment only, F and L, the ones with m are left.
    """
    size = most_items + 1

    def times_series(one, two):
        return [sum(one[k] * two[n - k] for k in range(n + 1)) for n in range(size)]

    def shifted(one):
        return [0] + one[:-1]

    def inverse_of_one_less(one):
        answer = [1]
        for n in range(1, size):
            answer.append(sum(one[k] * answer[n - k] for k in range(1, n + 1)))
        return answer

    low = [0] * size
    full = [1] + [0] * most_items
    counts = [full]
    for _ in range(most_items):
        edge = [1] + low[:-1]
        product = times_series(low, full)
        again = [a + b for a, b in zip(shifted(full), shifted(shifted(product)))]
        words = times_series(times_series(edge, full), times_series(edge, inverse_of_one_less(again)))
        exact = [word - one for word, one in zip(words, full)]
        low = [a + b for a, b in zip(low, full)]
        full = exact
        counts.append(exact)
    return counts


def stretch(chance, length):
    """A stretch of so many entries: equal, rising, falling, mixed, or with very great numbers."""
    start = chance.randint(-20, 20)
    kind = chance.randrange(6)
    if kind == 0:
        return [start] * length
    if kind == 1:
        return [start + place * chance.randint(0, 2) for place in range(length)]
    if kind == 2:
        return [start - place for place in range(length)]
    if kind == 3:
        return [chance.randint(-2, 2) for _ in range(length)]
    if kind == 4:
        return [chance.randint(-10 ** 31, 10 ** 31) for _ in range(length)]
    return [chance.randint(-100, 100) for _ in range(length)]


def drawn_rows(number, most, seed):
    """So many rows of up to `most` entries, each of one or several stretches; always the same."""
    chance = random.Random(seed)
    rows = []
    for _ in range(number):
        length = chance.randint(0, most)
        row = []
        while len(row) < length:
            row += stretch(chance, chance.randint(1, chance.choice([3, 10, most])))
        rows.append(row[:length])
    return rows


def plain_is_clear(times):
    """Whether between two equal times there always stands a greater one (point 12)."""
    for place, other in itertools.combinations(range(len(times)), 2):
        if times[place] == times[other] and max(times[place:other]) == times[place]:
            return False
    return True


def plain_parents(row):
    """The places above the entries of a row of different entries in its tree, None for the root (point 12)."""
    parents = [None] * len(row)

    def stand(first, end, above):
        if first < end:
            root = row.index(min(row[first:end]))
            parents[root] = above
            stand(first, root, root)
            stand(root + 1, end, root)

    stand(0, len(row), None)
    return parents


def places_of(order):
    """The list of the places of an order from the one with the integer 0 on (point 13)."""
    return [order.index(integer) for integer in range(len(order))]


@functools.cache
def orders_tuples(length):
    """All orders of a length by their times, each list in the sequence of point 13."""
    found = {}
    for order in itertools.permutations(range(length)):
        found.setdefault(tuple(plain_times(order)), []).append(order)
    return {times: tuple(sorted(orders, key=places_of)) for times, orders in found.items()}


def all_orders(length):
    """Pairs of times and the list of all their orders in the sequence of point 13, as new lists."""
    return [(list(times), [list(order) for order in orders]) for times, orders in orders_tuples(length).items()]


def drawn_orders(number, least, most, seed):
    """So many orders with `least` to `most` places; always the same."""
    chance = random.Random(seed)
    orders = []
    for _ in range(number):
        order = list(range(chance.randint(least, most)))
        chance.shuffle(order)
        # Some are nearly sorted, so that their trees are high.
        if chance.random() < 0.3:
            middle = len(order) // 2
            order = sorted(order[:middle]) + sorted(order[middle:], reverse=True)
        orders.append(order)
    return orders


def plain_text(row):
    """The text of a row (point 14)."""
    return " ".join([str(entry) for entry in row]) or "-"


def drawn_entries(number, most, seed):
    """So many rows of up to `most` entries of up to 31 digits, all lengths alike; always the same."""
    chance = random.Random(seed)
    rows = []
    for _ in range(number):
        rows.append([])
        for _ in range(chance.randint(0, most)):
            below = 10 ** chance.randint(0, 31)
            rows[-1].append(chance.choice([-1, 1]) * chance.randrange(below))
    return rows


# Signs that stand in texts and commands, and some that do not.
SIGNS = list("    ---0011234567899") + list("+_.,:*xrowput\n\t'") + ["\u0665", "\u00b2", "\u00a0", "\uff11", "\x00"]


def with_changed_signs(text, many, chance):
    """A text in which so many signs are changed, put in, left out or swapped with the next one."""
    for _ in range(many):
        at = chance.randint(0, len(text))
        kind = chance.randrange(4)
        if kind == 0:
            text = text[:at] + chance.choice(SIGNS) + text[at:]
        elif kind == 1:
            text = text[:at] + chance.choice(SIGNS) + text[at + 1:]
        elif kind == 2:
            text = text[:at] + text[at + 1:]
        else:
            text = text[:at] + text[at + 1:at + 2] + text[at:at + 1] + text[at + 2:]
    return text
