"""How much longer drives become under signs, and what they lack of a demand."""

from quietstreets.checks import is_ascending, is_integer_within, is_tuple_of
from quietstreets.errors import InvalidDemand
from quietstreets.net import net_under
from quietstreets.routes import least_by_direction, least_by_place
from quietstreets.signs import bar_drive
from quietstreets.streets import goes_along
from quietstreets.towns import require_signs, require_town

MOST_GROWTH = 99
MOST_LINES = 3


def is_demand(town, value):
    """Whether value is a demand of the town."""
    require_town(town)
    return is_demand_of(town, value)


def growths(town, signs):
    """The ascending list of tuples (g, h, growth) for all pairs of a gate and another gate."""
    require_town(town)
    require_signs(town, signs)
    return growths_between_gates(town, rim_lengths(town, ()), rim_lengths(town, signs))


def home_growths(town, signs):
    """The ascending list of tuples (h, in, out) for all houses."""
    require_town(town)
    require_signs(town, signs)
    told = growths_by_lack(rim_lengths(town, ()), rim_lengths(town, signs))
    return [(house, told[("in", house)], told[("out", house)]) for house in town[4]]


def lacks(town, signs, demand):
    """The ascending list of what the signs lack of the demand."""
    require_town(town)
    require_signs(town, signs)
    require_demand(town, demand)
    return lacks_against(town, rim_lengths(town, ()), signs, demand)


def require_demand(town, value):
    """Raises InvalidDemand if value is not a demand of the town."""
    if not is_demand_of(town, value):
        raise InvalidDemand("not a demand")


def is_demand_of(town, value):
    """Whether value is a demand of what is known to be a town."""
    return (
        is_tuple_of(value, 3, 3)
        and is_integer_within(value[0], 0, MOST_GROWTH)
        and is_integer_within(value[1], 0, MOST_GROWTH)
        and are_lines(town, value[2])
    )


def are_lines(town, value):
    """Whether value is an ascending tuple of at most 3 drives that no standing sign bars."""
    return (
        is_tuple_of(value, 0, MOST_LINES)
        and all([goes_along(town[1], item) and not bar_drive(town[2], item) for item in value])
        and is_ascending(value)
    )


def rim_lengths(town, signs):
    """The dict from each lack of a length to that length under the signs, None if no drive is free.

    These are the lacks of all pairs of gates and of all houses, there or not.
    """
    net = net_under(town, signs)
    _, _, _, gates, houses, _ = town
    least = {start: least_by_place(least_by_direction(net, start)) for start in gates + houses}
    lengths = {("through", gate, other): least[gate].get(other) for gate in gates for other in gates if other != gate}
    for house in houses:
        lengths[("in", house)] = least_of([least[gate].get(house) for gate in gates])
        lengths[("out", house)] = least_of([least[house].get(gate) for gate in gates])
    return lengths


def least_of(lengths):
    """The least of the lengths, those that are None left aside, or None if no other is there."""
    return min([length for length in lengths if length is not None], default=None)


def growths_by_lack(usual, grown):
    """The dict from each lack to the growth from the usual length to the grown one, None if there is none."""
    return {what: None if grown[what] is None else grown[what] - usual[what] for what in usual}


def growths_between_gates(town, usual, grown):
    """The ascending list of tuples (g, h, growth), from the usual lengths to the grown ones."""
    told = growths_by_lack(usual, grown)
    gates = town[3]
    return [(gate, other, told[("through", gate, other)]) for gate in gates for other in gates if other != gate]


def lacks_against(town, usual, signs, demand):
    """What lacks tells, for arguments that are known to be right, with the lengths under no further signs."""
    through, home, lines = demand
    told = growths_by_lack(usual, rim_lengths(town, signs))
    missing = [
        what
        for what, growth in told.items()
        if growth is None or growth > (through if what[0] == "through" else home)
    ]
    missing.extend([("line", at) for at, line in enumerate(lines) if bar_drive(signs, line)])
    return sorted(missing)
