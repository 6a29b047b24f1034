"""Values that are not what a function asks for."""


class Hostile:
    """An object that fails whenever somebody looks at it more closely than by its class."""

    def fail(self, *rest):
        raise RuntimeError("nobody should ask")

    __eq__ = __ne__ = __lt__ = __le__ = __gt__ = __ge__ = fail
    __len__ = __iter__ = __getitem__ = __contains__ = __bool__ = fail
    __int__ = __index__ = __neg__ = __add__ = __sub__ = __hash__ = __repr__ = fail


class Plain:
    """An object of another class."""


def nested(depth):
    """A list that is nested so many levels deep."""
    value = []
    for _ in range(depth):
        value = [value]
    return value


# Of no kind that a function of the package takes.
NOTHING = [
    None, "", "1", "1 2", "-", b"1", (), (1,), (1, 2), ((1, 2),), {}, {1: 1}, {"row": [1]}, {1, 2}, frozenset(),
    range(3), object(), Plain(), Plain, int, list, len, Hostile(), Ellipsis, NotImplemented, iter([1]),
]

# Items that make a list no row, wherever they stand in it.
NO_ENTRIES = [None, True, False, "1", "", b"1", (), (1,), [], [1], [[1]], {}, {1: 1}, object(), Plain, Hostile()]

# The texts of no row, and what is no text at all.
WRONG_TEXTS = [
    "", " ", "  ", "00", "01", "-0", "-00", "-01", "0-", "--", "--1", "- 1", "1 -", "- -", "-1-", "1-1", "+0", "+1", "1+",
    " 1", "1 ", " -", "- ", "1  2", "1   2", " 1 2", "1 2 ", "1 2  ", "1 02", "1 -0", "1 2 +3", "1,2", "1, 2", "[1]", "[]",
    "1.0", "1.", "1e3", "0x1", "1_0", "a", "None", "*", "1 a", "one", "\n", "1\n", "\n1", "1\n2", "1\t2", "\t1", "1\r",
    "-\n", "1\u00a02", "\u0665", "\u00b2", "\uff11", "1 \u0665", "-\u0665", "\u22121", "1\x00", "\u2007", "1\u2003",
    "0" * 31, "-" * 31, "0" + "9" * 31, " ".join("0" * 60) + " ", "1 " * 61, "9" * 5000 + " x", "x" * 3000, "\ud800",
]
NOT_TEXTS = [
    None, True, False, 0, 1, -1, 10 ** 30, b"", b"1", b"-", [], [1], ["1"], ["-"], (), ("1",), {}, {"1": 1}, {"1"},
    frozenset("1"), range(2), object(), Plain(), Plain, str, int, len, Hostile(), Ellipsis, NotImplemented, iter("1"),
    nested(20),
]

NOT_INTEGERS = NOTHING + [True, False, [], [0], [1], [[0]], nested(20)]

NOT_ROWS = (
    NOTHING + [True, False, 0, 1, -1, 10 ** 30, nested(1), nested(20), [[1], [2]], [(1, 2)], [[1, 2], 3]]
    + [[item] for item in NO_ENTRIES]
    + [[1, 2, item] for item in NO_ENTRIES]
    + [[item, 1] for item in NO_ENTRIES]
)

# Rows, but the times of none.
ROWS_NOT_TIMES = [
    [0], [-1], [2], [10 ** 30], [-10 ** 30], [1, 0], [0, 1], [2, 2], [1, 3], [3, 1], [1, 2, 2], [2, 2, 1], [2, 1, 3, 1, 3],
    [1, 3, 1], [2, 1, 4, 1, 2], [1, 2, 4], [3, 2, 2, 1], [1, -2], [-1, 2], [0, 0], [1, 2, 1, 0], [1, 10 ** 31],
]

# Rows, but no orders.
ROWS_NOT_ORDERS = [
    [1], [-1], [0, 0], [1, 2], [0, 2], [-1, 0], [0, 1, 1], [2, 0, 2], [10 ** 30], [0, -1, 1], [3, 0, 1], [1, 1, 0, 2],
]
