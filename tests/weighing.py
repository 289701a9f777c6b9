"""Many small towns with offers, and what the points say of them, by a slow reckoning with all bought signs."""

import random

from reckoning import (
    KITE, LADLE, SMALL, Drives, Reckoning, all_signs, bars_by_words, drives_without_repeats, growths_by_words,
    lacks_by_words, parts, small_towns,
)


class Weighed:
    """A town with offers and a demand, and what the points say of all bought signs, read literally."""

    def __init__(self, chance, town, drives, most_offers, signs=()):
        self.town = town
        self.before = Reckoning(town, (), drives)
        loud = self.before.loud()
        others = [sign for sign in all_signs(town[1]) if sign not in town[2] + tuple(signs)]
        chance.shuffle(others)
        # Signs that bar a loud drive are taken first, so that many towns become quiet.
        others.sort(key=lambda sign: (chance.random() < 0.3, not any(bars_by_words(sign, drive) for drive in loud)))
        chosen = (list(signs) + others)[:chance.randint(len(signs), most_offers)]
        self.offers = tuple(sorted((sign, chance.randint(1, 4)) for sign in chosen))
        lines = [row[0] for row in chance.sample(self.before.free, chance.choice((0, 0, 0, 1, 2)))]
        numbers = (0, 1, 2, 4, 99, 99)
        self.demand = (chance.choice(numbers), chance.choice(numbers), tuple(sorted(lines)))
        self.told = {bought: Reckoning(town, bought, drives) for bought in parts(tuple(dict(self.offers)))}
        self.prices = {bought: sum(dict(self.offers)[sign] for sign in bought) for bought in self.told}

    def lacks(self, bought, demand):
        return lacks_by_words(self.told[bought], self.before, bought, demand)

    def is_good(self, bought, demand):
        return not self.told[bought].loud() and not self.lacks(bought, demand)

    def good(self, demand):
        return [bought for bought in self.told if self.is_good(bought, demand)]

    def trades(self, home):
        """What point [12] says, read literally."""
        found = set()
        for bought in self.good((99, home, ())):
            growths = growths_by_words(self.told[bought], self.before)
            found.add((self.prices[bought], max(growth for _, _, growth in growths)))
        return sorted(
            trade for trade in found
            if not any(other != trade and other[0] <= trade[0] and other[1] <= trade[1] for other in found)
        )

    def is_paper(self, price, value):
        """What point [11] says of tuples of bought signs and reasons of the three kinds, read literally."""
        bought_ones = [bought for bought, _ in value]
        if value != sorted(value, key=lambda entry: entry[0]) or len(set(bought_ones)) < len(value):
            return False
        if () not in bought_ones:
            return False
        for bought, reason in value:
            if reason[0] == "dear" and self.prices[bought] < price:
                return False
            if reason[0] == "lack" and reason[1] not in self.lacks(bought, self.demand):
                return False
            if reason[0] == "loud":
                if reason[1] not in self.told[bought].loud():
                    return False
                for sign, _ in self.offers:
                    more = tuple(sorted({*bought, sign}))
                    if bars_by_words(sign, reason[1]) and more not in bought_ones:
                        return False
        return True

    def reasons(self, bought):
        """Right and wrong reasons."""
        drives = self.told[bought].loud() + self.before.loud()
        return (
            [("dear",)]
            + [("lack", what) for what in self.lacks(bought, self.demand)]
            + [("lack", ("through", *self.town[3][:2])), ("lack", ("line", 0)), ("lack", ("in", 1))]
            + [("loud", drive) for drive in drives]
            + [("loud", row[0]) for row in self.before.free[:3]]
        )


# Streets with several ways round.
ROUND = (
    (4, ((0, 1, 1), (0, 2, 1), (0, 3, 3), (1, 2, 1), (1, 3, 1), (2, 3, 2))),
    (5, ((0, 1, 1), (0, 2, 2), (0, 3, 3), (1, 4, 1), (2, 4, 2), (3, 4, 3))),
    (6, ((0, 1, 1), (0, 4, 9), (1, 2, 1), (1, 5, 2), (2, 4, 1), (2, 5, 2))),
    (5, ((0, 1, 1), (0, 2, 1), (1, 2, 1), (1, 3, 2), (2, 4, 3), (3, 4, 1))),
)


def weighed(seed, many, most_offers, streets):
    """So many small towns on each of these streets, with offers and demands; without them, most are loud."""
    chance = random.Random(seed)
    for town, drives in small_towns(seed, many, streets):
        case = Weighed(chance, town, drives, most_offers)
        if case.before.loud() or chance.random() < 0.2:
            yield case


def with_trades(seed, many):
    """So many times a town in which cheap signs send all a longer way round than dear ones."""
    chance = random.Random(seed)
    places, streets = ROUND[2]
    town = (places, streets, (), (0, 2), (), (2,))
    drives = Drives(streets, drives_without_repeats(streets))
    for _ in range(many):
        yield Weighed(chance, town, drives, 5, (("shut", 0, 1), ("turn", 0, 1, 2), ("turn", 2, 1, 0)))


CASES = (
    list(weighed(21, 5, 5, SMALL + ((4, KITE), (5, LADLE))))
    + list(weighed(22, 25, 5, ROUND))
    + list(weighed(23, 2, 8, ROUND[1:]))
    + list(with_trades(24, 10))
)
