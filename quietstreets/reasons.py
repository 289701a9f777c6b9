"""Why bought signs are not good, and the search that these reasons guide."""

from quietstreets.demands import lacks_against, rim_lengths
from quietstreets.offers import price_of_bought
from quietstreets.quiet import loud_between_gates
from quietstreets.signs import bar_drive


def reasons_below(town, offers, demand, price):
    """The dict from bought signs to a reason of a paper for this price, or None for cheaper ones that are good.

    It has the signs without any sign, and behind a loud drive what each good
    signs must contain one of. So each good signs with a lesser price contain
    some that are good here, and all entries are a paper if none are.
    """
    usual = rim_lengths(town, ())
    reasons = {}
    waiting = [()]
    while waiting:
        bought = waiting.pop()
        if bought not in reasons:
            dear = price_of_bought(offers, bought) >= price
            reason = ("dear",) if dear else reason_against(town, usual, demand, bought)
            reasons[bought] = reason
            if reason is not None and reason[0] == "loud":
                waiting.extend(with_one_that_bars(offers, bought, reason[1]))
    return reasons


def reason_against(town, usual, demand, bought):
    """Why the bought signs are not good, a lack or else a loud drive; None if they are good."""
    # A lack comes first, as no further signs mend it.
    missing = lacks_against(town, usual, bought, demand)
    if missing:
        return ("lack", missing[0])
    loud = loud_between_gates(town, bought)
    if loud:
        return ("loud", loud[0])
    return None


def with_one_that_bars(offers, bought, drive):
    """The list of the bought signs with each further offered sign that bars the drive, which is free under them."""
    return [tuple(sorted((*bought, sign))) for sign, _ in offers if bar_drive((sign,), drive)]


def least_good_signs(town, offers, demand):
    """A list of good signs such that each good signs contain some of them.

    So all that are cheapest are there, as each further sign has a price.
    """
    above_all = sum([price for _, price in offers]) + 1
    reasons = reasons_below(town, offers, demand, above_all)
    return [bought for bought, reason in reasons.items() if reason is None]
