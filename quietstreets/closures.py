"""How much longer the drives between gates become when a street is closed."""

from quietstreets.demands import growths_between_gates, rim_lengths
from quietstreets.signs import shutting
from quietstreets.towns import require_signs, require_street, require_town

# What a pair of gates counts between which no free drive is left.
CUT_OFF = 999


def closing_growths(town, signs, street):
    """The ascending list of tuples (g, h, growth): how much longer a best drive is that goes not through the street."""
    require_town(town)
    require_signs(town, signs)
    require_street(town, street)
    return growths_without(town, signs, rim_lengths(town, signs), street)


def dearest_street(town, signs):
    """The index of the first street for which the sum of these growths is greatest."""
    require_town(town)
    require_signs(town, signs)
    usual = rim_lengths(town, signs)
    sums = [sum_of(growths_without(town, signs, usual, street)) for street in range(len(town[1]))]
    return sums.index(max(sums))


def growths_without(town, signs, usual, street):
    """What closing_growths tells, from the usual lengths under the same signs."""
    return growths_between_gates(town, usual, rim_lengths(town, signs + shutting(town[1], (street,))))


def sum_of(growths):
    """The sum of the growths, those that are None counted as much."""
    return sum([CUT_OFF if growth is None else growth for _, _, growth in growths])
