"""The least lengths of free drives, and bounds below which none is."""

from quietstreets.checks import is_ascending, is_integer, is_tuple_of
from quietstreets.net import net_under
from quietstreets.routes import least_by_direction, least_by_place
from quietstreets.towns import require_place, require_signs, require_start_and_goal, require_town


def least_length(town, signs, start, goal):
    """The length of a best drive from the start to the goal, or None if no drive is free."""
    require_town(town)
    require_signs(town, signs)
    require_start_and_goal(town, start, goal)
    return least_by_place(least_by_direction(net_under(town, signs), start)).get(goal)


def table(town, signs, start):
    """The ascending list of the directions by which free drives from the start end, with their least lengths."""
    require_town(town)
    require_signs(town, signs)
    require_place(town, start)
    least = least_by_direction(net_under(town, signs), start)
    return sorted([(a, b, length) for (a, b), length in least.items()])


def is_bound(town, signs, start, value):
    """Whether value is a list of directions and numbers from which it is plain that no free drive is shorter."""
    require_town(town)
    require_signs(town, signs)
    require_place(town, start)
    net = net_under(town, signs)
    return are_numbered_directions(net, value) and holds_everywhere(net, start, value)


def are_numbered_directions(net, value):
    """Whether value is an ascending list of tuples (a, b, number) with each direction at most once."""
    return (
        isinstance(value, list)
        and all([is_numbered_direction(net, item) for item in value])
        # Without the numbers, so that no direction is there twice.
        and is_ascending([item[:2] for item in value])
    )


def is_numbered_direction(net, value):
    """Whether value is a tuple (a, b, number) of a direction and an integer."""
    return is_tuple_of(value, 3, 3) and all([is_integer(item) for item in value]) and value[:2] in net.lengths


def holds_everywhere(net, start, value):
    """Whether the numbers begin low enough, and rise by no more than the lengths."""
    numbers = {(a, b): number for a, b, number in value}
    limits = [(direction, net.lengths[direction]) for direction in net.directions_from(start)]
    for direction, number in numbers.items():
        limits.extend([(behind, number + net.lengths[behind]) for behind in net.nexts[direction]])
    return all([direction in numbers and numbers[direction] <= limit for direction, limit in limits])
