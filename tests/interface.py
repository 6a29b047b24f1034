"""What the interface of the document lists."""

# The interface: the functions with their parameters, the classes.
INTERFACE = {
    "errors": {
        name: None for name in (
            "PeakError InvalidRow InvalidTimes InvalidPlace InvalidRounds InvalidNumber InvalidEntry InvalidIndex"
            " InvalidText InvalidCommand NotClear NotOrder NotTimes NothingToUndo NoRidge TooLarge"
        ).split()
    },
    "rows": {
        "is_row": ["value"], "peaks_of": ["row"], "peeled": ["row", "rounds"], "peel_steps": ["row"],
        "block_sizes": ["row", "place"],
    },
    "times": {
        "times_of": ["row"], "rounds_needed": ["row"], "places_in_round": ["row", "rounds"], "is_times": ["value"],
        "row_with": ["times"], "relation": ["times", "place", "other"],
    },
    "counting": {
        "count_times": ["length"], "count_with": ["length", "most"], "nth_times": ["length", "number"],
        "times_number": ["times"], "walk_times": ["length"],
    },
    "orders": {
        "is_clear": ["times"], "parent_of": ["times", "place"], "count_orders": ["times"],
        "nth_order": ["times", "number"], "order_number": ["order"], "count_within": ["length", "rounds"],
    },
    "before": {"count_before": ["row", "length", "below"], "rows_before": ["row", "length", "below"]},
    "ranges": {"time_ranges": ["row", "place"], "time_if": ["row", "place", "entry"]},
    "joins": {"Times": None},
    "long": {
        "long_time": ["row", "copies", "place"], "long_left": ["row", "copies", "rounds"], "long_needed": ["row", "copies"],
    },
    "ridges": {"Ridge": None, "SumRidge": None},
    "texts": {"show_row": ["row"], "read_row": ["text"]},
    "desk": {"Desk": None},
}
# What the interface lists for classes, with the parameters: each stands in the class itself.
METHODS = {
    "Times": {
        "__init__": "self, items", "listed": "self", "highest": "self", "__add__": None, "__or__": None, "__mul__": None,
        "__len__": None, "__getitem__": None, "__contains__": None, "__iter__": None, "__eq__": None,
        "__call__": "self, rounds",
    },
    "Ridge": {
        "__init__": "self, row=None", "read": "cls, text", "put": "self, place, entry", "take": "self, place",
        "change": "self, place, entry", "peel": "self, *, rounds=1", "undo": "self", "try_peel": "self, *rounds",
        "row_now": "self", "times_now": "self", "rows_so_far": "self", "twin": "self", "__len__": None, "__eq__": None,
    },
    "SumRidge": {"__init__": "self, row=None", "sum_now": "self"},
    "Desk": {"__init__": "self", "execute": "self, row"},
    "TooLarge": {"__init__": "self, limit"},
}
DECORATED = {
    "property": {"listed", "highest", "row_now", "times_now", "sum_now"},
    "classmethod": {"read"},
}
