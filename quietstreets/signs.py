"""Signs of streets, and what they bar."""

from quietstreets.checks import is_ascending
from quietstreets.streets import goes_along, goes_through

# How many places each kind of sign names.
SIGN_PLACES = {"way": 2, "shut": 2, "turn": 3}


def is_sign(streets, value):
    """Whether value is a sign of the streets."""
    if not isinstance(value, tuple) or not value or not isinstance(value[0], str):
        return False
    kind = value[0]
    named = value[1:]
    if len(named) != SIGN_PLACES.get(kind, 0):
        return False
    # The places of a sign follow the rules of a drive: joined, and no turning round.
    return goes_along(streets, named) and (kind != "shut" or named[0] < named[1])


def are_ascending_signs(streets, value, most):
    """Whether value is an ascending tuple of at most so many signs of the streets."""
    return (
        isinstance(value, tuple)
        and len(value) <= most
        and all([is_sign(streets, item) for item in value])
        and is_ascending(value)
    )


def barred_runs(signs):
    """The dict of True for the pairs and triples of places that no free drive has in a row."""
    barred = {}
    for sign in signs:
        named = sign[1:]
        barred[named] = True
        if sign[0] == "shut":
            barred[named[::-1]] = True
    return barred


def bar_drive(signs, drive):
    """Whether one of the signs bars the drive."""
    barred = barred_runs(signs)
    pairs = list(zip(drive, drive[1:]))
    triples = list(zip(drive, drive[1:], drive[2:]))
    return any([run in barred for run in pairs + triples])


def concerns(sign, street):
    """Whether the sign bars a direction of the street or, for a turn, has one."""
    return goes_through(street, sign[1:])


def shutting(streets, indexes):
    """The signs that shut the streets with these indexes, so that just the drives around all of them are free."""
    return tuple([("shut", a, b) for at, (a, b, _) in enumerate(streets) if at in indexes])
