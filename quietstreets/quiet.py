"""Whether a town is quiet, and through which streets its best drives go."""

from quietstreets.net import net_under
from quietstreets.routes import shortest_drives
from quietstreets.streets import direction_indexes
from quietstreets.towns import require_signs, require_town


def is_quiet(town, signs):
    """Whether no best drive from a gate to another gate is loud."""
    return not loud_drives(town, signs)


def loud_drives(town, signs):
    """The ascending list of the loud best drives from a gate to another gate."""
    require_town(town)
    require_signs(town, signs)
    return loud_between_gates(town, signs)


def used_streets(town, signs):
    """The ascending list of the indexes of the streets through which a best drive between gates goes."""
    require_town(town)
    require_signs(town, signs)
    return used_between_gates(town, signs)


def used_between_gates(town, signs):
    """What used_streets tells, for a town and signs that are known to be such."""
    indexes = direction_indexes(town[1])
    drives = best_between_gates(town, signs)
    return sorted({indexes[direction] for drive in drives for direction in zip(drive, drive[1:])})


def loud_between_gates(town, signs):
    """What loud_drives tells, for a town and signs that are known to be such."""
    indexes = direction_indexes(town[1])
    quiet = town[5]
    return sorted([
        drive
        for drive in best_between_gates(town, signs)
        if any([indexes[direction] in quiet for direction in zip(drive, drive[1:])])
    ])


def best_between_gates(town, signs):
    """The list of the best drives from each gate to each other gate."""
    net = net_under(town, signs)
    gates = town[3]
    found = []
    for gate in gates:
        found.extend(shortest_drives(net, gate, [goal for goal in gates if goal != gate]))
    return found
