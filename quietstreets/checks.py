"""Checks of plain values that know nothing of towns.

The value may be any object, so each check looks at the kind of a value before
it compares it: nothing here calls a method of an unknown object.
"""


def is_integer(value):
    """Whether value is an integer; True and False are not accepted as such."""
    return isinstance(value, int) and not isinstance(value, bool)


def is_integer_within(value, least, most):
    """Whether value is an integer from least to most."""
    return is_integer(value) and least <= value <= most


def is_tuple_of(value, least, most):
    """Whether value is a tuple of least to most items."""
    return isinstance(value, tuple) and least <= len(value) <= most


def is_ascending(items):
    """Whether each item is less than the next one, so that none is there twice."""
    return all([low < high for low, high in zip(items, items[1:])])


def are_integers_below(value, limit):
    """Whether value is an ascending tuple of integers from 0 to limit less 1."""
    return (
        isinstance(value, tuple)
        and all([is_integer_within(item, 0, limit - 1) for item in value])
        and is_ascending(value)
    )
