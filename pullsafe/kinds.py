"""The kinds of values that all modules ask for."""


def is_integer(value):
    """Tell whether value is an integer."""
    return isinstance(value, int) and not isinstance(value, bool)


def is_integer_from(value, low, high):
    """Tell whether value is an integer from low to high."""
    return is_integer(value) and low <= value <= high


def is_sequence(value):
    """Tell whether value is a sequence."""
    return isinstance(value, (list, tuple))


def is_row(value, many):
    """Tell whether value is a sequence of so many things."""
    return is_sequence(value) and len(value) == many
