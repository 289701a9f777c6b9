"""Many small towns with offers: least prices, papers and trades against a slow reckoning by all bought signs."""

import random
import unittest

from quietstreets.cheapest import all_cheapest, least_price, sure_signs
from quietstreets.offers import are_good, are_offers, price_of
from quietstreets.papers import is_paper, paper
from quietstreets.trades import trades

from reckoning import (
    KITE, LADLE, SMALL, Drives, Reckoning, all_signs, bars_by_words, drives_without_repeats, growths_by_words,
    lacks_by_words, parts, small_towns,
)


class Weighed:
    """A town with offers and a demand, and what the points say of all bought signs, read literally."""

    def __init__(self, chance, town, drives, most_offers, signs=()):
        self.town = town
        self.before = Reckoning(town, (), drives)
        loud = self.before.loud()
        others = [sign for sign in all_signs(town[1]) if sign not in town[2] + tuple(signs)]
        chance.shuffle(others)
        # Signs that bar a loud drive are taken first, so that many towns become quiet.
        others.sort(key=lambda sign: (chance.random() < 0.3, not any(bars_by_words(sign, drive) for drive in loud)))
        chosen = (list(signs) + others)[:chance.randint(len(signs), most_offers)]
        self.offers = tuple(sorted((sign, chance.randint(1, 4)) for sign in chosen))
        lines = [row[0] for row in chance.sample(self.before.free, chance.choice((0, 0, 0, 1, 2)))]
        numbers = (0, 1, 2, 4, 99, 99)
        self.demand = (chance.choice(numbers), chance.choice(numbers), tuple(sorted(lines)))
        self.told = {bought: Reckoning(town, bought, drives) for bought in parts(tuple(dict(self.offers)))}
        self.prices = {bought: sum(dict(self.offers)[sign] for sign in bought) for bought in self.told}

    def lacks(self, bought, demand):
        return lacks_by_words(self.told[bought], self.before, bought, demand)

    def is_good(self, bought, demand):
        return not self.told[bought].loud() and not self.lacks(bought, demand)

    def good(self, demand):
        return [bought for bought in self.told if self.is_good(bought, demand)]

    def trades(self, home):
        """What point [12] says, read literally."""
        found = set()
        for bought in self.good((99, home, ())):
            growths = growths_by_words(self.told[bought], self.before)
            found.add((self.prices[bought], max(growth for _, _, growth in growths)))
        return sorted(
            trade for trade in found
            if not any(other != trade and other[0] <= trade[0] and other[1] <= trade[1] for other in found)
        )

    def is_paper(self, price, value):
        """What point [11] says of tuples of bought signs and reasons of the three kinds, read literally."""
        bought_ones = [bought for bought, _ in value]
        if value != sorted(value, key=lambda entry: entry[0]) or len(set(bought_ones)) < len(value):
            return False
        if () not in bought_ones:
            return False
        for bought, reason in value:
            if reason[0] == "dear" and self.prices[bought] < price:
                return False
            if reason[0] == "lack" and reason[1] not in self.lacks(bought, self.demand):
                return False
            if reason[0] == "loud":
                if reason[1] not in self.told[bought].loud():
                    return False
                for sign, _ in self.offers:
                    more = tuple(sorted({*bought, sign}))
                    if bars_by_words(sign, reason[1]) and more not in bought_ones:
                        return False
        return True

    def reasons(self, bought):
        """Right and wrong reasons."""
        drives = self.told[bought].loud() + self.before.loud()
        return (
            [("dear",)]
            + [("lack", what) for what in self.lacks(bought, self.demand)]
            + [("lack", ("through", *self.town[3][:2])), ("lack", ("line", 0)), ("lack", ("in", 1))]
            + [("loud", drive) for drive in drives]
            + [("loud", row[0]) for row in self.before.free[:3]]
        )


# Streets with several ways round.
ROUND = (
    (4, ((0, 1, 1), (0, 2, 1), (0, 3, 3), (1, 2, 1), (1, 3, 1), (2, 3, 2))),
    (5, ((0, 1, 1), (0, 2, 2), (0, 3, 3), (1, 4, 1), (2, 4, 2), (3, 4, 3))),
    (6, ((0, 1, 1), (0, 4, 9), (1, 2, 1), (1, 5, 2), (2, 4, 1), (2, 5, 2))),
    (5, ((0, 1, 1), (0, 2, 1), (1, 2, 1), (1, 3, 2), (2, 4, 3), (3, 4, 1))),
)


def weighed(seed, many, most_offers, streets):
    """So many small towns on each of these streets, with offers and demands; without them, most are loud."""
    chance = random.Random(seed)
    for town, drives in small_towns(seed, many, streets):
        case = Weighed(chance, town, drives, most_offers)
        if case.before.loud() or chance.random() < 0.2:
            yield case


def with_trades(seed, many):
    """So many times a town in which cheap signs send all a longer way round than dear ones."""
    chance = random.Random(seed)
    places, streets = ROUND[2]
    town = (places, streets, (), (0, 2), (), (2,))
    drives = Drives(streets, drives_without_repeats(streets))
    for _ in range(many):
        yield Weighed(chance, town, drives, 5, (("shut", 0, 1), ("turn", 0, 1, 2), ("turn", 2, 1, 0)))


CASES = (
    list(weighed(21, 5, 5, SMALL + ((4, KITE), (5, LADLE))))
    + list(weighed(22, 25, 5, ROUND))
    + list(weighed(23, 2, 8, ROUND[1:]))
    + list(with_trades(24, 10))
)


class Good(unittest.TestCase):
    def test_bought_signs(self):
        seen = []
        for case in CASES:
            self.assertIs(are_offers(case.town, case.offers), True)
            for bought, price in case.prices.items():
                expected = case.is_good(bought, case.demand)
                self.assertEqual(price_of(case.town, case.offers, bought), price)
                self.assertIs(are_good(case.town, case.offers, case.demand, bought), expected)
                seen.append(expected)
        self.assertGreater(seen.count(True), 50)
        self.assertGreater(seen.count(False), 50)

    def test_what_good_signs_contain(self):
        # Point [10]: signs that contain loud ones bar each loud drive, if they are good.
        made_loud = 0
        for case in CASES:
            good = case.good(case.demand)
            for bought in case.told:
                loud = case.told[bought].loud()
                for more in good:
                    if set(bought) <= set(more):
                        for drive in loud:
                            self.assertTrue(any(bars_by_words(sign, drive) for sign in more))
                made_loud += bool(loud) and any(
                    not case.told[fewer].loud() for fewer in case.told if set(fewer) < set(bought)
                )
        self.assertGreater(made_loud, 10)


class Cheapest(unittest.TestCase):
    def test_least_prices(self):
        seen = {}
        for case in CASES:
            good = case.good(case.demand)
            least = min((case.prices[bought] for bought in good), default=None)
            cheapest = sorted(bought for bought in good if case.prices[bought] == least)
            sure = sorted(sign for sign, _ in case.offers if cheapest and all(sign in bought for bought in cheapest))
            arguments = (case.town, case.offers, case.demand)
            with self.subTest(arguments=arguments):
                self.assertEqual(least_price(*arguments), least)
                self.assertEqual(all_cheapest(*arguments), cheapest)
                self.assertEqual(sure_signs(*arguments), sure)
            for what in (least, "several" if len(cheapest) > 1 else "one", "sure" if sure else "not sure"):
                seen[what] = seen.get(what, 0) + 1
        for what in (None, 0, 1, 2, 3, "several", "one", "sure", "not sure"):
            self.assertGreater(seen.get(what, 0), 1, seen)


class Papers(unittest.TestCase):
    def test_just_up_to_the_least_price(self):
        for case in CASES:
            good = case.good(case.demand)
            least = min((case.prices[bought] for bought in good), default=None)
            for price in (0, 1, 2, 3, 4, 5, 8, 13, 99):
                found = paper(case.town, case.offers, case.demand, price)
                with self.subTest(town=case.town, offers=case.offers, demand=case.demand, price=price):
                    self.assertEqual(found is None, least is not None and price > least)
                    if found is not None:
                        self.assertIs(is_paper(case.town, case.offers, case.demand, price, found), True)
                        self.assertTrue(case.is_paper(price, found))

    def test_papers_by_words(self):
        # Papers of which some entries are taken, changed and added, judged by the words.
        chance = random.Random(23)
        seen = []
        for case in CASES:
            for price in (0, 1, 2, 4, 99):
                found = paper(case.town, case.offers, case.demand, price)
                reasons = dict(found or [((), ("dear",))])
                for value in self.changed(chance, case, reasons):
                    expected = case.is_paper(price, value)
                    told = is_paper(case.town, case.offers, case.demand, price, value)
                    self.assertIs(told, expected, (case.town, case.offers, case.demand, price, value))
                    seen.append(expected)
                    if expected:
                        good = [case.prices[bought] for bought in case.good(case.demand)]
                        self.assertTrue(all(other >= price for other in good))
        self.assertGreater(seen.count(True), 100)
        self.assertGreater(seen.count(False), 100)

    def changed(self, chance, case, reasons):
        """Some papers and no papers, made from one."""
        everything = list(case.told)
        for _ in range(6):
            some = dict(reasons)
            for _ in range(chance.choice((0, 1, 1, 2))):
                bought = chance.choice(everything)
                some[bought] = chance.choice(case.reasons(bought))
            if chance.random() < 0.3:
                del some[chance.choice(list(some))]
            value = [(bought, some[bought]) for bought in sorted(some)]
            if chance.random() < 0.1:
                value.insert(0, value[-1] if value else ((), ("dear",)))
            yield value


class Trades(unittest.TestCase):
    def test_trades(self):
        seen = {}
        for case in CASES:
            for home in (0, 1, 3, 99):
                expected = case.trades(home)
                with self.subTest(town=case.town, offers=case.offers, home=home):
                    self.assertEqual(trades(case.town, case.offers, home), expected)
                seen[len(expected)] = seen.get(len(expected), 0) + 1
        self.assertGreater(seen[0], 10)
        self.assertGreater(seen[1], 10)
        self.assertGreater(seen.get(2, 0) + seen.get(3, 0), 3, seen)
