"""Which streets can be made quiet, whichever should be."""

from quietstreets.checks import are_integers_below
from quietstreets.demands import lacks_against, rim_lengths
from quietstreets.errors import InvalidStreet
from quietstreets.offers import require_question
from quietstreets.quiet import used_between_gates
from quietstreets.reasons import least_good_signs


def can_be_quiet(town, offers, demand, streets):
    """Whether the streets with these indexes can be made quiet together."""
    require_question(town, offers, demand)
    if not are_integers_below(streets, len(town[1])):
        raise InvalidStreet("not an ascending tuple of indexes of streets")
    # The signs that make these streets quiet are good where just these should be quiet.
    return len(least_good_signs(town[:5] + (streets,), offers, demand)) > 0


def greatest_quiet(town, offers, demand):
    """The ascending list of the tuples of streets that can be made quiet together, but with no further one."""
    require_question(town, offers, demand)
    indexes = range(len(town[1]))
    found = {}
    for bought in all_that_meet(town, offers, demand):
        used = used_between_gates(town, bought)
        found[tuple([at for at in indexes if at not in used])] = True
    return sorted([streets for streets in found if not is_within_another(streets, found)])


def all_that_meet(town, offers, demand):
    """The list of all bought signs that meet the demand."""
    usual = rim_lengths(town, ())
    # Without any sign nothing is longer and no line is barred.
    found = [()]
    for sign, _ in offers:
        more = [(*bought, sign) for bought in found]
        # Signs that lack something are left out, as further ones do not mend it.
        found.extend([bought for bought in more if not lacks_against(town, usual, bought, demand)])
    return found


def is_within_another(streets, found):
    """Whether all of the streets are in another one of these tuples."""
    return any([other != streets and all([at in other for at in streets]) for other in found])
