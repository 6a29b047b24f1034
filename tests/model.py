"""A ridge as plain lists of rows and sums, to compare ridges and desks with.

Nothing here imports the package.
"""

from tests.plain import plain_rows


class PlainRidge:
    """All rows and all sums of a ridge so far; the last ones are the present ones."""

    def __init__(self, row):
        self.rows = [list(row)]
        self.sums = [0]

    def now(self):
        return self.rows[-1]

    def keep(self, row, gone=0):
        self.rows.append(row)
        self.sums.append(self.sums[-1] + gone)

    def after(self, rounds):
        rows = plain_rows(self.now())
        return list(rows[min(rounds, len(rows) - 1)])

    def put(self, place, entry):
        row = list(self.now())
        row.insert(place, entry)
        self.keep(row)
        return len(row)

    def take(self, place):
        row = list(self.now())
        entry = row.pop(place)
        self.keep(row)
        return entry

    def change(self, place, entry):
        row = list(self.now())
        old = row[place]
        row[place] = entry
        self.keep(row)
        return old

    def peel(self, rounds):
        before, after = self.now(), self.after(rounds)
        self.keep(after, sum(before) - sum(after))
        return len(before) - len(after)

    def undo(self):
        self.rows.pop()
        self.sums.pop()

    def twin(self):
        other = PlainRidge([])
        other.rows = [list(row) for row in self.rows]
        other.sums = list(self.sums)
        return other


def drawn_entry(chance):
    """An entry: most are few different ones, so that equal ones stand beside one another."""
    far = 10 ** chance.randint(1, 31)
    return chance.choice([chance.randint(-3, 3), chance.randint(-30, 30), chance.randint(1 - far, far - 1)])


def drawn_change(plain, chance):
    """The tuple of the name and the arguments of a change that is possible now, `undo` among them."""
    row = plain.now()
    names = ["peel"]
    if len(row) < 60:
        names += ["put"] * 4
    if row:
        names += ["take", "change", "change"]
    if len(plain.rows) > 1:
        names += ["undo"]
    name = chance.choice(names)
    if name == "put":
        return name, [chance.randint(0, len(row)), drawn_entry(chance)]
    if name == "take":
        return name, [chance.randrange(len(row))]
    if name == "change":
        place = chance.randrange(len(row))
        return name, [place, chance.choice([drawn_entry(chance), row[place]])]
    if name == "peel":
        return name, [chance.choice([0, 1, 1, 2, 3, 10 ** 30])]
    return name, []


def do(ridge, name, arguments):
    """Calls a method of a ridge; `peel` takes its rounds by name."""
    if name == "peel":
        return ridge.peel(rounds=arguments[0])
    return getattr(ridge, name)(*arguments)


def state_of(ridge):
    """All that a ridge tells without changing."""
    sums = [ridge.sum_now] if hasattr(ridge, "sum_now") else []
    return [ridge.row_now, ridge.times_now, len(ridge), list(ridge.rows_so_far()), sums]
