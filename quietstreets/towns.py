"""Towns, signs for a town, and the town with a closed street."""

from quietstreets.checks import are_integers_below, is_integer_within, is_tuple_of
from quietstreets.errors import InvalidPlace, InvalidSigns, InvalidStreet, InvalidTown, NoTown
from quietstreets.net import net_under
from quietstreets.reach import reached_places
from quietstreets.signs import are_ascending_signs, concerns
from quietstreets.streets import are_streets

LEAST_PLACES = 2
MOST_PLACES = 9
LEAST_GATES = 2
MOST_GATES = 4
MOST_HOUSES = 3
MOST_STANDING = 6
MOST_SIGNS = 12


def is_town(value):
    """Whether value is a town."""
    return has_parts_of_town(value) and can_be_driven_through(value)


def are_signs(town, value):
    """Whether value are signs for the town."""
    require_town(town)
    return are_signs_for(town, value)


def closed(town, street):
    """The town with the street of this index closed."""
    require_town(town)
    require_street(town, street)
    left = without_street(town, street)
    if not is_town(left):
        raise NoTown("without this street it is no town")
    return left


def require_town(value):
    """Raises InvalidTown if value is not a town."""
    if not is_town(value):
        raise InvalidTown("not a town")


def require_signs(town, value):
    """Raises InvalidSigns if value are not signs for the town."""
    if not are_signs_for(town, value):
        raise InvalidSigns("not signs for the town")


def require_street(town, value):
    """Raises InvalidStreet if value is not an index of a street of the town."""
    if not is_integer_within(value, 0, len(town[1]) - 1):
        raise InvalidStreet("not an index of a street")


def require_place(town, value):
    """Raises InvalidPlace if value is not a place of the town."""
    if not is_integer_within(value, 0, town[0] - 1):
        raise InvalidPlace("not a place")


def require_start_and_goal(town, start, goal):
    """Raises InvalidPlace if start and goal are not two different places of the town."""
    require_place(town, start)
    require_place(town, goal)
    if start == goal:
        raise InvalidPlace("start and goal are the same")


def has_parts_of_town(value):
    """Whether value has the six parts of a town, wherever its free drives lead to."""
    if not is_tuple_of(value, 6, 6):
        return False
    places, streets, signs, gates, houses, quiet = value
    return (
        is_integer_within(places, LEAST_PLACES, MOST_PLACES)
        and are_streets(places, streets)
        and are_ascending_signs(streets, signs, MOST_STANDING)
        and are_gates(places, gates)
        and are_houses(places, gates, houses)
        and are_integers_below(quiet, len(streets))
    )


def are_gates(places, value):
    """Whether value is an ascending tuple of 2 to 4 of so many places."""
    return is_tuple_of(value, LEAST_GATES, MOST_GATES) and are_integers_below(value, places)


def are_houses(places, gates, value):
    """Whether value is an ascending tuple of at most 3 of so many places that are no gates."""
    return (
        is_tuple_of(value, 0, MOST_HOUSES)
        and are_integers_below(value, places)
        and not any([house in gates for house in value])
    )


def can_be_driven_through(town):
    """Whether free drives join all gates, and each house with some gate, there and back."""
    _, _, _, gates, houses, _ = town
    net = net_under(town, ())
    reached = {start: reached_places(net, start) for start in gates + houses}
    return (
        all([goal in reached[gate] for gate in gates for goal in gates if goal != gate])
        and all([any([house in reached[gate] for gate in gates]) for house in houses])
        and all([any([gate in reached[house] for gate in gates]) for house in houses])
    )


def are_signs_for(town, value):
    """Whether value are signs for what is known to be a town."""
    _, streets, standing, _, _, _ = town
    return are_ascending_signs(streets, value, MOST_SIGNS) and not any([sign in standing for sign in value])


def without_street(town, index):
    """What is left of the town without the street, a town or not."""
    places, streets, signs, gates, houses, quiet = town
    return (
        places,
        streets[:index] + streets[index + 1:],
        tuple([sign for sign in signs if not concerns(sign, streets[index])]),
        gates,
        houses,
        tuple([other - 1 if other > index else other for other in quiet if other != index]),
    )
