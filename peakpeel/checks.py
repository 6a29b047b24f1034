"""Which values are integers, and integers within bounds."""

from peakpeel.errors import InvalidNumber

# The greatest length for which times, orders and rows are counted.
MOST_LENGTH = 40


def is_an_integer(value):
    """Returns whether any value is an integer."""
    return isinstance(value, int) and not isinstance(value, bool)


def is_at_least(value, least):
    """Returns whether any value is an integer from `least` on."""
    return is_an_integer(value) and value >= least


def is_within(value, least, most):
    """Returns whether any value is an integer from `least` to `most`."""
    return is_an_integer(value) and least <= value <= most


def need_at_least(number, least):
    """Raises InvalidNumber for any value that is not an integer from `least` on."""
    if not is_at_least(number, least):
        raise InvalidNumber(f"not an integer from {least} on")


def need_number(number, most):
    """Raises InvalidNumber for any value that is not an integer from 0 to `most`."""
    if not is_within(number, 0, most):
        raise InvalidNumber(f"not an integer from 0 to {most}")


def need_length(length):
    """Raises InvalidNumber for any value that is not a length for which something is counted."""
    need_number(length, MOST_LENGTH)
