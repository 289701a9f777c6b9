"""Best drives."""

from quietstreets.net import net_under
from quietstreets.routes import shortest_drives
from quietstreets.towns import require_signs, require_start_and_goal, require_town


def best_drives(town, signs, start, goal):
    """The ascending list of the best drives from the start to the goal."""
    require_town(town)
    require_signs(town, signs)
    require_start_and_goal(town, start, goal)
    return sorted(shortest_drives(net_under(town, signs), start, (goal,)))


def count_best(town, signs, start, goal):
    """The number of the best drives from the start to the goal."""
    return len(best_drives(town, signs, start, goal))
