"""Many small towns with offers: least prices, papers and trades against a slow reckoning by all bought signs."""

import random
import unittest

from quietstreets.cheapest import all_cheapest, least_price, sure_signs
from quietstreets.offers import are_good, are_offers, price_of
from quietstreets.papers import is_paper, paper
from quietstreets.trades import trades

from reckoning import bars_by_words
from weighing import CASES


class Good(unittest.TestCase):
    def test_bought_signs(self):
        seen = []
        for case in CASES:
            self.assertIs(are_offers(case.town, case.offers), True)
            for bought, price in case.prices.items():
                expected = case.is_good(bought, case.demand)
                self.assertEqual(price_of(case.town, case.offers, bought), price)
                self.assertIs(are_good(case.town, case.offers, case.demand, bought), expected)
                seen.append(expected)
        self.assertGreater(seen.count(True), 50)
        self.assertGreater(seen.count(False), 50)

    def test_what_good_signs_contain(self):
        # Point [10]: signs that contain loud ones bar each loud drive, if they are good.
        made_loud = 0
        for case in CASES:
            good = case.good(case.demand)
            for bought in case.told:
                loud = case.told[bought].loud()
                for more in good:
                    if set(bought) <= set(more):
                        for drive in loud:
                            self.assertTrue(any(bars_by_words(sign, drive) for sign in more))
                made_loud += bool(loud) and any(
                    not case.told[fewer].loud() for fewer in case.told if set(fewer) < set(bought)
                )
        self.assertGreater(made_loud, 10)


class Cheapest(unittest.TestCase):
    def test_least_prices(self):
        seen = {}
        for case in CASES:
            good = case.good(case.demand)
            least = min((case.prices[bought] for bought in good), default=None)
            cheapest = sorted(bought for bought in good if case.prices[bought] == least)
            sure = sorted(sign for sign, _ in case.offers if cheapest and all(sign in bought for bought in cheapest))
            arguments = (case.town, case.offers, case.demand)
            with self.subTest(arguments=arguments):
                self.assertEqual(least_price(*arguments), least)
                self.assertEqual(all_cheapest(*arguments), cheapest)
                self.assertEqual(sure_signs(*arguments), sure)
            for what in (least, "several" if len(cheapest) > 1 else "one", "sure" if sure else "not sure"):
                seen[what] = seen.get(what, 0) + 1
        for what in (None, 0, 1, 2, 3, "several", "one", "sure", "not sure"):
            self.assertGreater(seen.get(what, 0), 1, seen)


class Papers(unittest.TestCase):
    def test_just_up_to_the_least_price(self):
        for case in CASES:
            good = case.good(case.demand)
            least = min((case.prices[bought] for bought in good), default=None)
            for price in (0, 1, 2, 3, 4, 5, 8, 13, 99):
                found = paper(case.town, case.offers, case.demand, price)
                with self.subTest(town=case.town, offers=case.offers, demand=case.demand, price=price):
                    self.assertEqual(found is None, least is not None and price > least)
                    if found is not None:
                        self.assertIs(is_paper(case.town, case.offers, case.demand, price, found), True)
                        self.assertTrue(case.is_paper(price, found))

    def test_papers_by_words(self):
        # Papers of which some entries are taken, changed and added, judged by the words.
        chance = random.Random(23)
        seen = []
        for case in CASES:
            for price in (0, 1, 2, 4, 99):
                found = paper(case.town, case.offers, case.demand, price)
                reasons = dict(found or [((), ("dear",))])
                for value in self.changed(chance, case, reasons):
                    expected = case.is_paper(price, value)
                    told = is_paper(case.town, case.offers, case.demand, price, value)
                    self.assertIs(told, expected, (case.town, case.offers, case.demand, price, value))
                    seen.append(expected)
                    if expected:
                        good = [case.prices[bought] for bought in case.good(case.demand)]
                        self.assertTrue(all(other >= price for other in good))
        self.assertGreater(seen.count(True), 100)
        self.assertGreater(seen.count(False), 100)

    def changed(self, chance, case, reasons):
        """Some papers and no papers, made from one."""
        everything = list(case.told)
        for _ in range(6):
            some = dict(reasons)
            for _ in range(chance.choice((0, 1, 1, 2))):
                bought = chance.choice(everything)
                some[bought] = chance.choice(case.reasons(bought))
            if chance.random() < 0.3:
                del some[chance.choice(list(some))]
            value = [(bought, some[bought]) for bought in sorted(some)]
            if chance.random() < 0.1:
                value.insert(0, value[-1] if value else ((), ("dear",)))
            yield value


class Trades(unittest.TestCase):
    def test_trades(self):
        seen = {}
        for case in CASES:
            for home in (0, 1, 3, 99):
                expected = case.trades(home)
                with self.subTest(town=case.town, offers=case.offers, home=home):
                    self.assertEqual(trades(case.town, case.offers, home), expected)
                seen[len(expected)] = seen.get(len(expected), 0) + 1
        self.assertGreater(seen[0], 10)
        self.assertGreater(seen[1], 10)
        self.assertGreater(seen.get(2, 0) + seen.get(3, 0), 3, seen)
