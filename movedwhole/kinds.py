"""What kinds of values the whole package tells apart: integers, numbers, lots."""


def is_integer(value):
    """Whether the value is an integer: True and False are none."""
    return isinstance(value, int) and not isinstance(value, bool)


def is_number(value):
    """Whether the value is an integer from 0 on."""
    return is_integer(value) and value >= 0


def is_within(value, bounds):
    """Whether the value is an integer from the first of the bounds to the second."""
    least, most = bounds
    return is_integer(value) and least <= value <= most


def is_lot(value, stores):
    """Whether the value is a rising tuple of store numbers below stores; it may be empty."""
    if not isinstance(value, tuple):
        return False
    least = 0
    for store in value:
        if not is_within(store, (least, stores - 1)):
            return False
        least = store + 1
    return True
