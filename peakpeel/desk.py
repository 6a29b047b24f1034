"""Commands in words for a ridge: point 15."""

from peakpeel.counting import times_number
from peakpeel.errors import InvalidCommand, NoRidge
from peakpeel.ranges import time_ranges
from peakpeel.ridges import Ridge
from peakpeel.texts import is_number, is_text, read_row, show_row
from peakpeel.times import rounds_needed

MOST_DIGITS = 31

# What the numbers behind the name of each command are; `row` has a row instead.
NUMBERS = {
    "put": ("PLACE", "ENTRY"),
    "peel": ("ROUNDS",),
    "take": ("PLACE",),
    "change": ("PLACE", "ENTRY"),
    "undo": (),
    "show": (),
    "times": (),
    "needed": (),
    "number": (),
    "ranges": ("PLACE",),
}


def answer_put(ridge, place, entry):
    """Returns the result of `put PLACE ENTRY`."""
    return str(ridge.put(place, entry))


def answer_peel(ridge, rounds):
    """Returns the result of `peel ROUNDS`."""
    return str(ridge.peel(rounds=rounds))


def answer_take(ridge, place):
    """Returns the result of `take PLACE`."""
    return str(ridge.take(place))


def answer_change(ridge, place, entry):
    """Returns the result of `change PLACE ENTRY`."""
    return str(ridge.change(place, entry))


def answer_undo(ridge):
    """Returns the result of `undo`."""
    ridge.undo()
    return "ok"


def answer_show(ridge):
    """Returns the result of `show`."""
    return show_row(ridge.row_now)


def answer_times(ridge):
    """Returns the result of `times`."""
    return show_row(ridge.times_now)


def answer_needed(ridge):
    """Returns the result of `needed`."""
    return str(rounds_needed(ridge.row_now))


def answer_number(ridge):
    """Returns the result of `number`."""
    return str(times_number(ridge.times_now))


def show_range(time, low, high):
    """Returns a range of integers that give a time as TIME:LOW:HIGH."""
    return ":".join(["*" if part is None else str(part) for part in (time, low, high)])


def answer_ranges(ridge, place):
    """Returns the result of `ranges PLACE`."""
    return " ".join([show_range(time, low, high) for time, low, high in time_ranges(ridge.row_now, place)])


ANSWERS = {
    "put": answer_put,
    "peel": answer_peel,
    "take": answer_take,
    "change": answer_change,
    "undo": answer_undo,
    "show": answer_show,
    "times": answer_times,
    "needed": answer_needed,
    "number": answer_number,
    "ranges": answer_ranges,
}


def words_of(command):
    """Returns the list of the words of a command, at least one. Raises InvalidCommand for any value but a text."""
    if not isinstance(command, str):
        raise InvalidCommand("not a text")
    return command.split(" ")


def read_entries(words):
    """Returns the row that words stand for. Raises InvalidCommand if they are no ROW."""
    text = " ".join(words)
    if not is_text(text) or len(words) > Ridge.MOST:
        raise InvalidCommand("not the text of a row that a ridge can have")
    return read_row(text)


def read_number(kind, word):
    """Returns the number that a word stands for. Raises InvalidCommand if it is no number of this kind."""
    if not is_number(word) or len(word.removeprefix("-")) > MOST_DIGITS:
        raise InvalidCommand("not a number, or too long a one")
    number = int(word)
    if number < 0 and kind != "ENTRY":
        raise InvalidCommand("not a number from 0 on")
    return number


def read_numbers(name, words):
    """Returns the numbers of the command with a name. Raises InvalidCommand if the words behind it are others."""
    if name not in NUMBERS or len(words) != len(NUMBERS[name]):
        raise InvalidCommand("not the words of a command")
    return [read_number(kind, word) for kind, word in zip(NUMBERS[name], words)]


class Desk:
    """A desk, which runs commands on a ridge; there is none at first."""

    def __init__(self):
        self._ridge = None

    def execute(self, row):
        """Runs one command and returns its result, a text."""
        words = words_of(row)
        name = words[0]
        if name == "row":
            self._ridge = Ridge(read_entries(words[1:]))
            return "ok"
        numbers = read_numbers(name, words[1:])
        if self._ridge is None:
            raise NoRidge("there is no ridge yet")
        answer = ANSWERS[name]
        return answer(self._ridge, *numbers)
