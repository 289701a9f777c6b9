"""How the best drives between gates are spread over the streets."""

from math import gcd

from quietstreets.errors import InvalidSign
from quietstreets.net import net_under
from quietstreets.routes import shortest_drives
from quietstreets.signs import is_sign
from quietstreets.streets import direction_indexes
from quietstreets.towns import MOST_SIGNS, require_signs, require_town


def shares(town, signs):
    """The list of the shares of the streets."""
    require_town(town)
    require_signs(town, signs)
    return shares_under(town, signs)


def moved_shares(town, signs, sign):
    """The list of the shares with one sign more, each less the share without it."""
    require_town(town)
    require_signs(town, signs)
    if not is_further_sign(town, signs, sign):
        raise InvalidSign("not a sign that can be added to these")
    before = shares_under(town, signs)
    after = shares_under(town, tuple(sorted((*signs, sign))))
    return [added(later, (-top, bottom)) for later, (top, bottom) in zip(after, before)]


def is_further_sign(town, signs, value):
    """Whether value is a sign with which these signs are still signs for the town."""
    return (
        is_sign(town[1], value)
        and value not in town[2]
        and value not in signs
        and len(signs) < MOST_SIGNS
    )


def shares_under(town, signs):
    """What shares tells, for a town and signs that are known to be such."""
    net = net_under(town, signs)
    gates = town[3]
    totals = [(0, 1) for _ in town[1]]
    for gate in gates:
        for goal in gates:
            drives = shortest_drives(net, gate, (goal,)) if goal != gate else []
            # A pair without a free drive has no shares.
            if drives:
                counts = times_through(town[1], drives)
                totals = [added(total, (count, len(drives))) for total, count in zip(totals, counts)]
    return totals


def times_through(streets, drives):
    """The list, by streets, of how often the drives go through a street together."""
    indexes = direction_indexes(streets)
    counts = [0] * len(streets)
    for drive in drives:
        for direction in zip(drive, drive[1:]):
            counts[indexes[direction]] += 1
    return counts


def added(one, other):
    """The sum of two fractions, without a common divisor above 1."""
    top = one[0] * other[1] + other[0] * one[1]
    bottom = one[1] * other[1]
    common = gcd(top, bottom)
    return (top // common, bottom // common)
