"""Good signs without one of them, and with a street closed."""

from quietstreets.errors import NotGood
from quietstreets.offers import are_good_in, require_bought, require_question
from quietstreets.signs import concerns
from quietstreets.streets import goes_through
from quietstreets.towns import is_town, without_street


def needless_signs(town, offers, demand, signs):
    """The ascending list of the signs without which the others alone are good."""
    require_good(town, offers, demand, signs)
    return [
        sign
        for sign in signs
        if are_good_in(town, demand, tuple([other for other in signs if other != sign]))
    ]


def breaking_streets(town, offers, demand, signs):
    """The ascending list of the indexes of the streets with which the good signs break."""
    require_good(town, offers, demand, signs)
    return [index for index in range(len(town[1])) if break_with(town, demand, signs, index)]


def require_good(town, offers, demand, signs):
    """Raises InvalidTown, InvalidOffers, InvalidDemand, InvalidSigns, or NotGood if the signs are not good."""
    require_question(town, offers, demand)
    require_bought(town, offers, signs)
    if not are_good_in(town, demand, signs):
        raise NotGood("the signs are not good")


def break_with(town, demand, signs, index):
    """Whether good signs break with the street of this index."""
    left = without_street(town, index)
    if not is_town(left):
        return False
    street = town[1][index]
    through, home, lines = demand
    left_signs = tuple([sign for sign in signs if not concerns(sign, street)])
    left_lines = tuple([line for line in lines if not goes_through(street, line)])
    return not are_good_in(left, (through, home, left_lines), left_signs)
