"""Trades between the price of signs and how much longer the drives between gates become."""

from quietstreets.checks import is_integer_within
from quietstreets.demands import MOST_GROWTH, growths_by_lack, rim_lengths
from quietstreets.errors import InvalidNumber
from quietstreets.offers import price_of_bought, require_offers
from quietstreets.reasons import least_good_signs
from quietstreets.towns import require_town


def trades(town, offers, home):
    """The ascending list of the trades for the number home."""
    require_town(town)
    require_offers(town, offers)
    if not is_integer_within(home, 0, MOST_GROWTH):
        raise InvalidNumber("not a growth that a demand allows")
    usual = rim_lengths(town, ())
    # With signs that contain others that are good, price and growth are no less than with these.
    good = least_good_signs(town, offers, (MOST_GROWTH, home, ()))
    found = [(price_of_bought(offers, bought), greatest_growth(town, usual, bought)) for bought in good]
    return without_worse(sorted(found))


def greatest_growth(town, usual, bought):
    """The greatest growth from a gate to another one under good signs."""
    told = growths_by_lack(usual, rim_lengths(town, bought))
    return max([growth for what, growth in told.items() if what[0] == "through"])


def without_worse(found):
    """The ascending pairs without those that another one is at least as good as in both numbers."""
    kept = []
    for price, growth in found:
        # What stands before has no greater price, so only a lesser growth tells for this one.
        if not kept or growth < kept[-1][1]:
            kept.append((price, growth))
    return kept
