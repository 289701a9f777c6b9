"""The cheapest good signs."""

from quietstreets.offers import price_of_bought, require_question
from quietstreets.reasons import least_good_signs


def least_price(town, offers, demand):
    """The least price of good signs, or None if there are none."""
    require_question(town, offers, demand)
    return min(prices_of_good(town, offers, demand).values(), default=None)


def all_cheapest(town, offers, demand):
    """The ascending list of all good signs with the least price."""
    require_question(town, offers, demand)
    prices = prices_of_good(town, offers, demand)
    least = min(prices.values(), default=None)
    return sorted([bought for bought, price in prices.items() if price == least])


def sure_signs(town, offers, demand):
    """The ascending list of the signs that are in all good signs with the least price."""
    cheapest = all_cheapest(town, offers, demand)
    # Without good signs none are sure, although each sign is in all of none.
    if not cheapest:
        return []
    return [sign for sign in cheapest[0] if all([sign in bought for bought in cheapest])]


def prices_of_good(town, offers, demand):
    """The dict from good signs, all that are cheapest among them, to their prices."""
    return {bought: price_of_bought(offers, bought) for bought in least_good_signs(town, offers, demand)}
