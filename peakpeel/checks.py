"""Which values are integers, and integers within bounds."""


def is_an_integer(value):
    """Returns whether any value is an integer."""
    return isinstance(value, int) and not isinstance(value, bool)


def is_at_least(value, least):
    """Returns whether any value is an integer from `least` on."""
    return is_an_integer(value) and value >= least


def is_within(value, least, most):
    """Returns whether any value is an integer from `least` to `most`."""
    return is_an_integer(value) and least <= value <= most
