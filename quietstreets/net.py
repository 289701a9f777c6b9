"""The streets under signs: by which directions free drives begin and go on."""

from quietstreets.signs import barred_runs
from quietstreets.streets import direction_lengths, joined_places


class Net:
    """Streets under signs, made once where drives from several places are looked for.

    It speaks of directions, not of places: what may follow depends on where a
    drive comes from, and a drive may come to a place again.
    """

    def __init__(self, streets, signs):
        barred = barred_runs(signs)
        joined = joined_places(streets)
        # The dict from each direction, a barred one too, to its length.
        self.lengths = direction_lengths(streets)
        # The dict from each place to the directions by which a free drive can begin there.
        self.firsts = {a: [(a, b) for b in joined[a] if (a, b) not in barred] for a in joined}
        # The dict from each direction, a barred one too, to those that are not barred behind it.
        self.nexts = {
            (a, b): [(b, c) for _, c in self.firsts[b] if c != a and (a, b, c) not in barred]
            for a, b in self.lengths
        }

    def directions_from(self, start):
        """The list of the directions by which a free drive from the start can begin."""
        # A place may have no streets.
        return list(self.firsts.get(start, []))


def net_under(town, signs):
    """The net of the town's streets under its standing signs and these."""
    return Net(town[1], town[2] + signs)
