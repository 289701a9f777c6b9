"""The same answers as elsewhere, reckoned in the simplest ways."""

from itertools import combinations

from quietstreets.net import net_under
from quietstreets.offers import are_good_in, price_of_bought, require_question
from quietstreets.parting import require_ends
from quietstreets.reach import reached_places
from quietstreets.signs import shutting


def naive_length(town, signs, start, goal):
    """The same as least_length, by going on from all directions again and again."""
    require_ends(town, signs, start, goal)
    net = net_under(town, signs)
    least = {direction: net.lengths[direction] for direction in net.directions_from(start)}
    known = {}
    while known != least:
        known = {direction: least[direction] for direction in least}
        for direction, length in known.items():
            for behind in net.nexts[direction]:
                further = length + net.lengths[behind]
                least[behind] = min(further, least.get(behind, further))
    return min([length for (_, b), length in least.items() if b == goal], default=None)


def naive_least_price(town, offers, demand):
    """The same as least_price, by trying all bought signs."""
    require_question(town, offers, demand)
    offered = [sign for sign, _ in offers]
    prices = [
        price_of_bought(offers, bought)
        for many in range(len(offered) + 1)
        for bought in combinations(offered, many)
        if are_good_in(town, demand, bought)
    ]
    return min(prices, default=None)


def naive_closures(town, signs, start, goal):
    """The same as fewest_closures, by trying all tuples of indexes."""
    require_ends(town, signs, start, goal)
    streets = town[1]
    for many in range(len(streets)):
        for closed in combinations(range(len(streets)), many):
            net = net_under(town, signs + shutting(streets, closed))
            if goal not in reached_places(net, start):
                return many
    # Nothing is left where all are closed.
    return len(streets)
