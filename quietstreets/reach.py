"""Where free drives lead to."""

from quietstreets.signs import barred_runs
from quietstreets.streets import joined_places


def reached_places(streets, signs, start):
    """The dict of True for the places at which some drive from the start ends that no sign bars."""
    joined = joined_places(streets)
    barred = barred_runs(signs)
    # Directions, not places, are gone through: what may follow depends on
    # where a drive comes from, and a drive may come to a place again.
    found = {}
    waiting = [(start, b) for b in joined.get(start, []) if (start, b) not in barred]
    while waiting:
        a, b = waiting.pop()
        if (a, b) not in found:
            found[(a, b)] = True
            waiting.extend(next_directions(joined, barred, a, b))
    return {b: True for _, b in found}


def next_directions(joined, barred, a, b):
    """The list of the directions that are not barred behind the direction (a, b)."""
    return [(b, c) for c in joined[b] if c != a and (b, c) not in barred and (a, b, c) not in barred]
