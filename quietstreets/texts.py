"""Texts of signs and towns, and towns read back from them."""

from quietstreets.drives import require_sign
from quietstreets.errors import ParseError
from quietstreets.towns import is_town, require_town

NO_ITEMS = "none"
PARTS = 6


def format_sign(town, sign):
    """The text of a sign of the streets of the town."""
    require_town(town)
    require_sign(town, sign)
    return text_of_sign(sign)


def format_town(town):
    """The text of the town."""
    require_town(town)
    return text_of_town(town)


def parse_town(text):
    """The town with this text."""
    if not isinstance(text, str):
        raise ParseError("not a text")
    parts = text.split("; ")
    if len(parts) != PARTS:
        raise ParseError("not six parts")
    town = read_town(parts)
    # What is read is not looked at closely: only the text of the town itself is right.
    if not is_town(town) or text_of_town(town) != text:
        raise ParseError("not the text of a town")
    return town


def text_of_sign(sign):
    """What format_sign tells, for what is known to be a sign."""
    return " ".join([str(item) for item in sign])


def text_of_town(town):
    """What format_town tells, for what is known to be a town."""
    places, streets, signs, gates, houses, quiet = town
    parts = [
        [f"{a}-{b}:{length}" for a, b, length in streets],
        [text_of_sign(sign) for sign in signs],
        [str(gate) for gate in gates],
        [str(house) for house in houses],
        [str(index) for index in quiet],
    ]
    return "; ".join([str(places)] + [", ".join(items) if items else NO_ITEMS for items in parts])


def read_town(parts):
    """What six parts of a text tell, a town or not."""
    places, streets, signs, gates, houses, quiet = parts
    return (
        read_number(places),
        tuple([read_street(item) for item in items_of(streets)]),
        tuple([read_sign(item) for item in items_of(signs)]),
        tuple([read_number(item) for item in items_of(gates)]),
        tuple([read_number(item) for item in items_of(houses)]),
        tuple([read_number(item) for item in items_of(quiet)]),
    )


def items_of(part):
    """The list of the texts of the items of a part."""
    return [] if part == NO_ITEMS else part.split(", ")


def read_street(text):
    """The two places and the length of a street, each one None where there is no number."""
    ends, _, length = text.partition(":")
    a, _, b = ends.partition("-")
    return (read_number(a), read_number(b), read_number(length))


def read_sign(text):
    """The kind and the places of a sign, None where there is no number."""
    kind, *places = text.split(" ")
    return (kind,) + tuple([read_number(place) for place in places])


def read_number(text):
    """The number of one or two digits, or None; a town has no greater ones."""
    return int(text) if len(text) <= 2 and text.isascii() and text.isdigit() else None
