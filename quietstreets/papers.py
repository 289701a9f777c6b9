"""Papers: that no good signs have a price below a given one."""

from quietstreets.checks import is_ascending, is_integer, is_integer_within, is_tuple_of
from quietstreets.demands import lacks_against, rim_lengths
from quietstreets.errors import InvalidNumber
from quietstreets.offers import are_bought_of, price_of_bought, require_question
from quietstreets.quiet import loud_between_gates
from quietstreets.reasons import reasons_below, with_one_that_bars
from quietstreets.streets import goes_along

GREATEST_OF_A_PAPER = 99


def paper(town, offers, demand, price):
    """A paper for the price, or None if good signs have a lesser one."""
    require_question(town, offers, demand)
    require_price(price)
    reasons = reasons_below(town, offers, demand, price)
    if any([reason is None for reason in reasons.values()]):
        return None
    return sorted(reasons.items())


def is_paper(town, offers, demand, price, value):
    """Whether value is a paper for the price."""
    require_question(town, offers, demand)
    require_price(price)
    if not are_entries(town, offers, value):
        return False
    usual = rim_lengths(town, ())
    return all([
        is_right(town, usual, demand, price_of_bought(offers, bought) >= price, bought, reason)
        for bought, reason in value
    ]) and are_complete(offers, value)


def require_price(value):
    """Raises InvalidNumber if value is not an integer from 0 to 99."""
    if not is_integer_within(value, 0, GREATEST_OF_A_PAPER):
        raise InvalidNumber("not a price of a paper")


def are_entries(town, offers, value):
    """Whether value is an ascending list of tuples (bought, reason), whatever the reasons are."""
    return (
        isinstance(value, list)
        and all([is_tuple_of(item, 2, 2) and are_bought_of(town, offers, item[0]) for item in value])
        # Without the reasons, so that no bought signs are there twice.
        and is_ascending([bought for bought, _ in value])
    )


def is_right(town, usual, demand, dear, bought, reason):
    """Whether reason is a right one for the bought signs, which are dear or not."""
    if not is_tuple_of(reason, 1, 2) or not isinstance(reason[0], str):
        return False
    if len(reason) == 1:
        return reason[0] == "dear" and dear
    kind, what = reason
    if kind == "lack":
        return has_form_of_lack(what) and what in lacks_against(town, usual, bought, demand)
    if kind == "loud":
        return goes_along(town[1], what) and what in loud_between_gates(town, bought)
    return False


def has_form_of_lack(value):
    """Whether value is a tuple of a string and integers, so that it can be looked for among lacks."""
    return (
        isinstance(value, tuple)
        and len(value) > 0
        and isinstance(value[0], str)
        and all([is_integer(item) for item in value[1:]])
    )


def are_complete(offers, entries):
    """Whether right entries have the signs without any sign, and what is needed behind each drive."""
    reasons = {bought: reason for bought, reason in entries}
    needed = [()]
    for bought, reason in entries:
        if reason[0] == "loud":
            needed.extend(with_one_that_bars(offers, bought, reason[1]))
    return all([bought in reasons for bought in needed])
