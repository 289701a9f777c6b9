"""Closures that part one place from another one, and papers that no fewer do."""

from quietstreets.checks import are_integers_below, is_ascending, is_integer_within, is_tuple_of
from quietstreets.errors import InvalidNumber
from quietstreets.net import net_under
from quietstreets.reach import short_drive
from quietstreets.signs import bar_drive, shutting
from quietstreets.streets import MOST_STREETS, direction_indexes, goes_along
from quietstreets.towns import require_signs, require_start_and_goal, require_town


def fewest_closures(town, signs, start, goal):
    """The least number of closures that part the start from the goal."""
    return len(parting_closures(town, signs, start, goal)[0])


def parting_closures(town, signs, start, goal):
    """The ascending list of all closures of the least number that part the start from the goal."""
    require_ends(town, signs, start, goal)
    around = drives_around(town, signs, start, goal, [()])
    # Closures that part contain a street of each drive, so they all come up where streets are added so.
    while None not in list(around.values()):
        around = drives_around(town, signs, start, goal, with_one_more(town, around))
    return sorted([closed for closed, drive in around.items() if drive is None])


def closure_paper(town, signs, start, goal, number):
    """A closure paper for the number, or None if fewer closures part the start from the goal."""
    require_ends(town, signs, start, goal)
    require_number(number)
    entries = []
    closures = [()]
    for _ in range(number):
        around = drives_around(town, signs, start, goal, closures)
        if None in list(around.values()):
            return None
        entries.extend([(closed, ("drive", drive)) for closed, drive in around.items()])
        closures = with_one_more(town, around)
    entries.extend([(closed, ("many",)) for closed in closures])
    return sorted(entries)


def is_closure_paper(town, signs, start, goal, number, value):
    """Whether value is a closure paper for the number."""
    require_ends(town, signs, start, goal)
    require_number(number)
    return (
        are_closure_entries(town, value)
        and all([
            is_right_reason(town, signs, (start, goal), closed, len(closed) >= number, reason)
            for closed, reason in value
        ])
        and have_all_needed(town, value)
    )


def require_ends(town, signs, start, goal):
    """Raises InvalidTown, InvalidSigns or InvalidPlace if the arguments are not what they should be."""
    require_town(town)
    require_signs(town, signs)
    require_start_and_goal(town, start, goal)


def require_number(value):
    """Raises InvalidNumber if value is not an integer from 0 to 14."""
    if not is_integer_within(value, 0, MOST_STREETS):
        raise InvalidNumber("not a number of streets")


def drives_around(town, signs, start, goal, closures):
    """The dict from each of the closures to a free drive that goes through none of them, or None."""
    return {
        closed: short_drive(net_under(town, signs + shutting(town[1], closed)), start, goal)
        for closed in closures
    }


def with_one_more(town, around):
    """The list of the closures that have one street more, of the drive around them, each closures once."""
    indexes = direction_indexes(town[1])
    further = {}
    for closed, drive in around.items():
        for direction in zip(drive, drive[1:]):
            further[tuple(sorted((*closed, indexes[direction])))] = True
    return list(further)


def are_closure_entries(town, value):
    """Whether value is an ascending list of tuples (closed, reason), whatever the reasons are."""
    return (
        isinstance(value, list)
        and all([is_tuple_of(item, 2, 2) and are_integers_below(item[0], len(town[1])) for item in value])
        # Without the reasons, so that no closures are there twice.
        and is_ascending([closed for closed, _ in value])
    )


def is_right_reason(town, signs, ends, closed, many, reason):
    """Whether reason is a right one for the closures, which are as many as the number or not."""
    if not is_tuple_of(reason, 1, 2) or not isinstance(reason[0], str):
        return False
    if len(reason) == 1:
        return reason[0] == "many" and many
    return reason[0] == "drive" and leads_around(town, signs, ends, closed, reason[1])


def leads_around(town, signs, ends, closed, value):
    """Whether value is a free drive between these ends that goes through none of the closed streets."""
    return (
        goes_along(town[1], value)
        and (value[0], value[-1]) == ends
        and not bar_drive(town[2] + signs + shutting(town[1], closed), value)
    )


def have_all_needed(town, entries):
    """Whether right entries have the closures without any street, and what is needed behind each drive."""
    closures = {closed: True for closed, _ in entries}
    around = {closed: reason[1] for closed, reason in entries if reason[0] == "drive"}
    return all([closed in closures for closed in [()] + with_one_more(town, around)])
