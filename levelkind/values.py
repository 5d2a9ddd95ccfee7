"""What counts as an integer, a sequence and a row of integers."""


def is_integer(value):
    """Whether the value is an integer: True and False are none."""
    return isinstance(value, int) and not isinstance(value, bool)


def is_row(value, many):
    """Whether the value is a sequence of so many things."""
    return isinstance(value, (list, tuple)) and len(value) == many


def integers(value, many):
    """The value as a tuple of so many integers, or None for what is no such sequence."""
    if not is_row(value, many) or not all([is_integer(part) for part in value]):
        return None
    return tuple(value)
