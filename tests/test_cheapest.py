"""least_price, all_cheapest and sure_signs."""

import unittest

from quietstreets.cheapest import all_cheapest, least_price, sure_signs
from quietstreets.errors import InvalidDemand, InvalidOffers, InvalidTown
from quietstreets.offers import are_good, price_of

from reckoning import parts
from sample_towns import GRID, LINE, LOLLIPOP, SQUARE, SQUARE_SIGNS, TWO, WRONG, put

SHUT, TURN, WAY = [sign for sign, _ in TWO]
FUNCTIONS = (least_price, all_cheapest, sure_signs)


def offered(*prices):
    """The offers of TWO at other prices."""
    return tuple((sign, price) for (sign, _), price in zip(TWO, prices))


class Cheapest(unittest.TestCase):
    def check(self, town, offers, demand, price, cheapest, sure):
        with self.subTest(town=town, offers=offers, demand=demand):
            self.assertEqual(least_price(town, offers, demand), price)
            self.assertEqual(all_cheapest(town, offers, demand), cheapest)
            self.assertEqual(sure_signs(town, offers, demand), sure)

    def test_examples(self):
        self.assertEqual(least_price(SQUARE, TWO, (2, 0, ())), 2)
        self.assertEqual(all_cheapest(SQUARE, TWO, (2, 0, ())), [(("turn", 0, 1, 3), ("way", 1, 0))])
        self.assertEqual(sure_signs(SQUARE, TWO, (2, 0, ())), [("turn", 0, 1, 3), ("way", 1, 0)])

    def test_defined_in_their_file(self):
        for function in FUNCTIONS:
            self.assertEqual(function.__module__, "quietstreets.cheapest")

    def test_prices(self):
        self.check(SQUARE, offered(1, 1, 1), (2, 0, ()), 1, [(SHUT,)], [SHUT])
        self.check(SQUARE, offered(9, 4, 4), (2, 0, ()), 8, [(TURN, WAY)], [TURN, WAY])
        self.check(SQUARE, offered(9, 9, 9), (2, 0, ()), 9, [(SHUT,)], [SHUT])
        self.check(SQUARE, offered(9, 9, 9)[1:], (2, 0, ()), 18, [(TURN, WAY)], [TURN, WAY])

    def test_several(self):
        self.check(SQUARE, offered(2, 1, 1), (2, 0, ()), 2, [(SHUT,), (TURN, WAY)], [])
        both = ((("shut", 0, 1), 3), (("shut", 1, 3), 3))
        self.check(SQUARE, both, (2, 0, ()), 3, [(("shut", 0, 1),), (("shut", 1, 3),)], [])
        offers = ((TURN, 3), (("turn", 3, 1, 0), 2), (("way", 0, 1), 3), (WAY, 2))
        expected = [(TURN, ("turn", 3, 1, 0)), (TURN, WAY), (("turn", 3, 1, 0), ("way", 0, 1)), (("way", 0, 1), WAY)]
        self.check(SQUARE, offers, (2, 0, ()), 5, expected, [])

    def test_sure_signs_are_in_all_of_the_cheapest(self):
        # The turn from 0 must be barred here, the way back may be in two manners.
        offers = ((TURN, 1), (("turn", 3, 1, 0), 2), (WAY, 2))
        self.check(SQUARE, offers, (2, 0, ()), 3, [(TURN, ("turn", 3, 1, 0)), (TURN, WAY)], [TURN])

    def test_no_signs_are_needed(self):
        quiet = put(SQUARE, (5,), ())
        self.check(quiet, TWO, (0, 0, ()), 0, [()], [])
        self.check(quiet, (), (0, 0, ()), 0, [()], [])
        self.check(put(SQUARE, (5,), (1, 3)), TWO, (99, 99, ()), 0, [()], [])
        self.check(put(SQUARE, (2,), (SHUT,)), (), (0, 0, ()), 0, [()], [])

    def test_no_good_signs(self):
        self.check(SQUARE, (), (99, 99, ()), None, [], [])
        self.check(SQUARE, TWO, (1, 99, ()), None, [], [])
        self.check(SQUARE, TWO[1:2], (99, 99, ()), None, [], [])
        self.check(SQUARE, TWO, (99, 99, ((1, 0),)), None, [], [])
        self.check(put(LINE, (5,), (0,)), ((("shut", 0, 1), 1),), (99, 99, ()), None, [], [])
        self.check(LOLLIPOP, ((("shut", 3, 4), 1), (("way", 3, 4), 1)), (99, 99, ()), None, [], [])

    def test_demands(self):
        self.check(SQUARE, TWO, (2, 0, ((0, 1),)), 2, [(TURN, WAY)], [TURN, WAY])
        self.check(SQUARE, offered(1, 1, 1), (2, 0, ((0, 1),)), 2, [(TURN, WAY)], [TURN, WAY])
        self.check(SQUARE, TWO, (2, 0, ((2, 0, 1),)), 2, [(TURN, WAY)], [TURN, WAY])
        self.check(SQUARE, TWO, (2, 0, ((0, 1, 3),)), None, [], [])
        self.check(SQUARE, TWO[::2], (2, 0, ()), 3, [(SHUT,)], [SHUT])

    def test_houses(self):
        town = (4, ((0, 1, 1), (0, 3, 5), (1, 3, 2)), (), (0, 3), (1,), (0,))
        offers = ((("shut", 0, 1), 1), (("shut", 1, 3), 4))
        self.check(town, offers, (2, 1, ()), 1, [(("shut", 0, 1),)], [("shut", 0, 1)])
        self.check(town, offers, (2, 0, ()), 4, [(("shut", 1, 3),)], [("shut", 1, 3)])
        self.check(town, offers, (1, 1, ()), None, [], [])

    def test_standing_signs(self):
        town = put(SQUARE, (2,), (TURN,))
        self.check(town, TWO[::2], (2, 0, ()), 1, [(WAY,)], [WAY])
        self.check(put(town, (2,), (TURN, WAY)), TWO[:1], (0, 0, ()), 0, [()], [])

    def test_eight_offers(self):
        offers = tuple((sign, 1 + at % 9) for at, sign in enumerate(SQUARE_SIGNS[::2][:8]))
        for demand in ((99, 99, ()), (2, 0, ()), (1, 0, ()), (4, 0, ((1, 3),))):
            good = [some for some in parts(tuple(dict(offers))) if are_good(SQUARE, offers, demand, some)]
            least = min((price_of(SQUARE, offers, some) for some in good), default=None)
            cheapest = sorted(some for some in good if price_of(SQUARE, offers, some) == least)
            sure = [sign for sign in dict(offers) if cheapest and all(sign in some for some in cheapest)]
            self.check(SQUARE, offers, demand, least, cheapest, sure)

    def test_more_signs_than_bar_the_first_drive(self):
        # Behind each way that is barred there is another loud one.
        streets = ((0, 1, 1), (0, 2, 2), (0, 3, 3), (0, 4, 9), (1, 4, 1), (2, 4, 1), (3, 4, 1))
        town = (5, streets, (), (0, 4), (), (0, 1, 2))
        offers = tuple((("shut", 0, place), place) for place in (1, 2, 3))
        all_three = tuple(sign for sign, _ in offers)
        self.check(town, offers, (99, 0, ()), 6, [all_three], list(all_three))
        self.check(put(town, (5,), (0, 1)), offers, (99, 0, ()), 3, [all_three[:2]], list(all_three[:2]))
        self.check(put(town, (5,), (0, 2)), offers, (99, 0, ()), 1, [all_three[:1]], list(all_three[:1]))
        self.check(put(town, (5,), (1, 2)), offers, (99, 0, ()), 0, [()], [])
        self.check(town, offers, (7, 0, ()), 6, [all_three], list(all_three))
        self.check(town, offers, (6, 0, ()), None, [], [])

    def test_new_lists(self):
        for function in (all_cheapest, sure_signs):
            first = function(SQUARE, TWO, (2, 0, ()))
            self.assertIs(type(first), list)
            first.clear()
            self.assertNotEqual(function(SQUARE, TWO, (2, 0, ())), [])
        self.assertEqual({type(bought) for bought in all_cheapest(SQUARE, TWO, (2, 0, ()))}, {tuple})

    def test_grid(self):
        town = put(GRID, (5,), (2,))
        offers = ((("shut", 0, 4), 2), (("turn", 0, 4, 1), 4), (("turn", 4, 1, 2), 1), (("turn", 6, 3, 0), 9))
        for demand in ((99, 99, ()), (9, 9, ()), (0, 0, ())):
            good = [some for some in parts(tuple(dict(offers))) if are_good(town, offers, demand, some)]
            least = min((price_of(town, offers, some) for some in good), default=None)
            self.assertEqual(least_price(town, offers, demand), least)

    def test_invalid(self):
        for function in FUNCTIONS:
            for value in (*WRONG, TWO[::-1], ((("way", 0, 1), 0),), ((("way", 0, 1), 10),), list(TWO), None):
                self.assertRaises(InvalidOffers, function, SQUARE, value, (100, 0, ()))
            for value in (*WRONG, (100, 0, ()), (-1, 0, ()), (0, 100, ()), (0, True, ()), (0, 0), [0, 0, ()], None):
                self.assertRaises(InvalidDemand, function, SQUARE, TWO, value)
            self.assertRaises(InvalidTown, function, SQUARE[:5], TWO[::-1], None)
            nine = tuple((sign, 1) for sign in SQUARE_SIGNS[:9])
            self.assertRaises(InvalidOffers, function, SQUARE, nine, (0, 0, ()))
            self.assertRaises(InvalidOffers, function, put(SQUARE, (2,), (SHUT,)), TWO, (0, 0, ()))
