"""The texts of rows: point 14."""

from peakpeel.errors import InvalidText
from peakpeel.rows import need_row

# The text of the row without entries.
EMPTY = "-"


def is_number(word):
    """Returns whether a word is the text of an integer."""
    digits = word.removeprefix("-")
    # Other scripts have digits as well, which Python would read.
    if not (digits.isascii() and digits.isdigit()):
        return False
    # This bars -0, too.
    return digits[0] != "0" or word == "0"


def is_text(value):
    """Returns whether any value is the text of a row."""
    if not isinstance(value, str):
        return False
    return value == EMPTY or all([is_number(word) for word in value.split(" ")])


def show_row(row):
    """Returns the text of a row."""
    need_row(row)
    return " ".join([str(entry) for entry in row]) if row else EMPTY


def read_row(text):
    """Returns the row with a text."""
    if not is_text(text):
        raise InvalidText("not the text of a row")
    return [] if text == EMPTY else [int(word) for word in text.split(" ")]
