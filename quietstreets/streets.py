"""Streets, their directions, and the ways along them."""

from quietstreets.checks import is_ascending, is_integer, is_integer_within, is_tuple_of

MOST_STREETS = 14
GREATEST_LENGTH = 99


def is_street(places, value):
    """Whether value is a street between two of so many places."""
    return (
        is_tuple_of(value, 3, 3)
        and is_integer_within(value[0], 0, places - 1)
        and is_integer_within(value[1], 0, places - 1)
        and value[0] < value[1]
        and is_integer_within(value[2], 1, GREATEST_LENGTH)
    )


def are_streets(places, value):
    """Whether value is an ascending tuple of 1 to 14 streets between different pairs of places."""
    return (
        is_tuple_of(value, 1, MOST_STREETS)
        and all([is_street(places, item) for item in value])
        # Without the lengths, so that no two streets join the same places.
        and is_ascending([street[:2] for street in value])
    )


def direction_lengths(streets):
    """The dict from each direction to the length of its street."""
    lengths = {}
    for a, b, length in streets:
        lengths[(a, b)] = length
        lengths[(b, a)] = length
    return lengths


def direction_indexes(streets):
    """The dict from each direction to the index of its street."""
    indexes = {}
    for at, (a, b, _) in enumerate(streets):
        indexes[(a, b)] = at
        indexes[(b, a)] = at
    return indexes


def joined_places(streets):
    """The dict from each place that has a street to the list of the places that it is joined with."""
    joined = {}
    for a, b, _ in streets:
        joined.setdefault(a, []).append(b)
        joined.setdefault(b, []).append(a)
    return joined


def goes_through(street, places):
    """Whether the places, in a row, have a direction of the street."""
    a, b, _ = street
    directions = list(zip(places, places[1:]))
    return (a, b) in directions or (b, a) in directions


def goes_along(streets, value):
    """Whether value is a drive along the streets, signs left aside."""
    if not isinstance(value, tuple) or len(value) < 2:
        return False
    # True and 1 are the same key, so integers are told before joined places are looked up.
    if not all([is_integer(item) for item in value]):
        return False
    lengths = direction_lengths(streets)
    return all([direction in lengths for direction in zip(value, value[1:])]) and all(
        [before != behind for before, behind in zip(value, value[2:])]
    )
