"""Offers, bought signs and their price, and when bought signs are good."""

from quietstreets.checks import is_ascending, is_integer_within, is_tuple_of
from quietstreets.demands import lacks_against, require_demand, rim_lengths
from quietstreets.errors import InvalidOffers, InvalidSigns
from quietstreets.quiet import loud_between_gates
from quietstreets.signs import is_sign
from quietstreets.towns import require_town

MOST_OFFERS = 8
LEAST_PRICE = 1
GREATEST_PRICE = 9


def are_offers(town, value):
    """Whether value are offers of the town."""
    require_town(town)
    return are_offers_of(town, value)


def price_of(town, offers, signs):
    """The price of the bought signs."""
    require_town(town)
    require_offers(town, offers)
    require_bought(town, offers, signs)
    return price_of_bought(offers, signs)


def are_good(town, offers, demand, signs):
    """Whether the town is quiet under the bought signs, and they meet the demand."""
    require_question(town, offers, demand)
    require_bought(town, offers, signs)
    return are_good_in(town, demand, signs)


def require_question(town, offers, demand):
    """Raises InvalidTown, InvalidOffers or InvalidDemand if one of the three is not what it should be."""
    require_town(town)
    require_offers(town, offers)
    require_demand(town, demand)


def require_offers(town, value):
    """Raises InvalidOffers if value are not offers of the town."""
    if not are_offers_of(town, value):
        raise InvalidOffers("not offers of the town")


def require_bought(town, offers, value):
    """Raises InvalidSigns if value are not bought signs of these offers."""
    if not are_bought_of(town, offers, value):
        raise InvalidSigns("not bought signs of these offers")


def are_offers_of(town, value):
    """Whether value are offers of what is known to be a town."""
    return (
        is_tuple_of(value, 0, MOST_OFFERS)
        and all([is_offer_of(town, item) for item in value])
        # Without the prices, so that no sign is offered twice.
        and is_ascending([sign for sign, _ in value])
    )


def is_offer_of(town, value):
    """Whether value is a tuple (sign, price) of a sign that is not standing and an integer from 1 to 9."""
    return (
        is_tuple_of(value, 2, 2)
        and is_sign(town[1], value[0])
        and value[0] not in town[2]
        and is_integer_within(value[1], LEAST_PRICE, GREATEST_PRICE)
    )


def are_bought_of(town, offers, value):
    """Whether value is an ascending tuple of some of the offered signs."""
    offered = [sign for sign, _ in offers]
    return (
        isinstance(value, tuple)
        # Things that are no signs are told first, as they may be equal to one: True is equal to 1.
        and all([is_sign(town[1], item) and item in offered for item in value])
        and is_ascending(value)
    )


def are_good_in(town, demand, signs):
    """What are_good tells, for arguments that are known to be right."""
    return not lacks_against(town, rim_lengths(town, ()), signs, demand) and not loud_between_gates(town, signs)


def price_of_bought(offers, bought):
    """The sum of the prices of signs that are known to be bought ones."""
    return sum([price for sign, price in offers if sign in bought])
