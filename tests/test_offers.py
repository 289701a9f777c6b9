"""are_offers, price_of and are_good."""

import unittest

from quietstreets.errors import InvalidDemand, InvalidOffers, InvalidSigns, InvalidTown
from quietstreets.offers import are_good, are_offers, price_of

from reckoning import parts
from sample_towns import (
    GRID, GRID_SIGNS, LINE, LOLLIPOP, SQUARE, SQUARE_SIGNS, TWO, WRONG, Agreeable, Touchy, bent, put, spoiled,
)

EIGHT = tuple((sign, at + 1) for at, sign in enumerate(SQUARE_SIGNS[::2][:8]))


class AreOffers(unittest.TestCase):
    def yes(self, *values, town=SQUARE):
        for value in values:
            with self.subTest(value=value):
                self.assertIs(are_offers(town, value), True)

    def no(self, *values, town=SQUARE):
        for value in values:
            with self.subTest(value=value):
                self.assertIs(are_offers(town, value), False)
                self.assertRaises(InvalidOffers, price_of, town, value, ())
                self.assertRaises(InvalidOffers, are_good, town, value, (0, 0, ()), ())

    def test_example(self):
        self.yes(TWO)

    def test_defined_in_their_file(self):
        for function in (are_offers, price_of, are_good):
            self.assertEqual(function.__module__, "quietstreets.offers")

    def test_each_sign(self):
        for sign in SQUARE_SIGNS:
            self.yes(((sign, 5),))
        self.no(((("way", 0, 3), 5),), ((("turn", 0, 1, 0), 5),), ((("shut", 1, 0), 5),), ((("open", 0, 1), 5),))

    def test_number(self):
        self.yes(*[EIGHT[:many] for many in range(9)])
        self.no(EIGHT + ((("way", 3, 2), 1),))
        self.no(tuple((sign, 1) for sign in SQUARE_SIGNS[:9]), tuple((sign, 1) for sign in SQUARE_SIGNS))

    def test_prices(self):
        for price in range(1, 10):
            self.yes(((("way", 0, 1), price),))
        for price in (0, 10, -1, 100, 10 ** 30, True, False, None, "1", (1,)):
            self.no(((("way", 0, 1), price),), TWO[:2] + ((("way", 1, 0), price),))

    def test_the_same_sign_twice(self):
        self.no(((("way", 0, 1), 3), (("way", 0, 1), 3)), ((("way", 0, 1), 3), (("way", 0, 1), 5)))
        self.no(TWO[:1] + TWO, TWO + TWO[2:], TWO[:1] + ((("shut", 0, 1), 4),) + TWO[1:])

    def test_the_same_price_twice(self):
        self.yes(tuple((sign, 4) for sign in SQUARE_SIGNS[:8]))

    def test_order(self):
        self.no(TWO[::-1], (TWO[1], TWO[0], TWO[2]), (TWO[0], TWO[2], TWO[1]))
        # The order is that of the signs, not of the prices.
        self.no(((("way", 1, 0), 1), (("way", 0, 1), 2)))
        self.yes(((("way", 0, 1), 2), (("way", 1, 0), 1)))

    def test_standing_signs_are_not_offered(self):
        town = put(SQUARE, (2,), (("turn", 0, 1, 3),))
        self.no(TWO, TWO[1:2], town=town)
        self.yes(TWO[:1], TWO[::2], town=town)
        for sign in GRID_SIGNS:
            self.no(((sign, 1),), town=GRID)

    def test_signs_of_the_streets(self):
        self.yes(((("way", 0, 1), 1),), town=LINE)
        self.no(((("way", 0, 2), 1),), TWO, town=LINE)
        self.no(TWO, town=GRID)

    def test_number_of_items(self):
        self.no(((("way", 0, 1),),), ((("way", 0, 1), 1, 1),), (("way", 0, 1),), ((),), ((1, ("way", 0, 1)),), TWO[0])

    def test_other_things(self):
        self.no(*WRONG, list(TWO), dict(TWO), [list(offer) for offer in TWO], True, 0, Agreeable(), Touchy())
        self.no(*spoiled(TWO), *bent(TWO))

    def test_invalid_town(self):
        for town in (*WRONG, SQUARE[:5], put(SQUARE, (3,), (0, 4))):
            for value in ((), TWO, None):
                self.assertRaises(InvalidTown, are_offers, town, value)
                self.assertRaises(InvalidTown, price_of, town, value, None)


class PriceOf(unittest.TestCase):
    def test_example(self):
        self.assertEqual(price_of(SQUARE, TWO, (("turn", 0, 1, 3), ("way", 1, 0))), 2)

    def test_all_bought_signs(self):
        prices = dict(EIGHT)
        for bought in parts(tuple(prices)):
            self.assertEqual(price_of(SQUARE, EIGHT, bought), sum(prices[sign] for sign in bought))

    def test_none_and_most(self):
        self.assertEqual(price_of(SQUARE, (), ()), 0)
        self.assertEqual(price_of(SQUARE, TWO, ()), 0)
        signs = SQUARE_SIGNS[:8]
        self.assertEqual(price_of(SQUARE, tuple((sign, 9) for sign in signs), signs), 72)
        self.assertIs(type(price_of(SQUARE, TWO, ())), int)

    def test_not_bought(self):
        shut, turn, way = [sign for sign, _ in TWO]
        for signs in (
            (("way", 0, 1),), (shut, ("way", 0, 1)), (("shut", 0, 2), turn), (way, turn), (turn, shut), (way, way),
            (shut, turn, way, way), (("way", 0, 3),), ("way", 1, 0), way, TWO, TWO[:1], [shut], [], (list(shut),),
            (None,), None, 0, True, "way", (("way", True, 0),), (("way", 1, False),), SQUARE_SIGNS[:12],
            SQUARE_SIGNS[:13], Agreeable(), Touchy(), *WRONG, *spoiled((shut, way)), *bent((shut, way)),
        ):
            with self.subTest(signs=type(signs)):
                self.assertRaises(InvalidSigns, price_of, SQUARE, TWO, signs)
                self.assertRaises(InvalidSigns, are_good, SQUARE, TWO, (2, 0, ()), signs)
        # Signs for the town, but nothing is offered.
        for sign in SQUARE_SIGNS:
            self.assertRaises(InvalidSigns, price_of, SQUARE, (), (sign,))

    def test_twelve_signs_are_more_than_can_be_offered(self):
        offers = tuple((sign, 1) for sign in SQUARE_SIGNS[:8])
        self.assertRaises(InvalidSigns, price_of, SQUARE, offers, SQUARE_SIGNS[:12])
        self.assertRaises(InvalidOffers, price_of, SQUARE, tuple((sign, 1) for sign in SQUARE_SIGNS[:12]), ())


class AreGood(unittest.TestCase):
    def good(self, town, offers, demand, *expected):
        """All bought signs that are good are these."""
        for bought in parts(tuple(sign for sign, _ in offers)):
            with self.subTest(town=town, demand=demand, bought=bought):
                self.assertIs(are_good(town, offers, demand, bought), bought in expected)

    def test_example(self):
        self.assertIs(are_good(SQUARE, TWO, (2, 0, ()), (("shut", 0, 1),)), True)

    def test_all_bought_signs(self):
        shut, turn, way = [sign for sign, _ in TWO]
        expected = ((shut,), (shut, turn), (shut, way), (turn, way), (shut, turn, way))
        self.good(SQUARE, TWO, (2, 0, ()), *expected)
        self.good(SQUARE, TWO, (99, 99, ()), *expected)
        self.good(SQUARE, TWO, (1, 0, ()))
        self.good(SQUARE, TWO, (1, 99, ()))

    def test_lines(self):
        shut, turn, way = [sign for sign, _ in TWO]
        self.good(SQUARE, TWO, (2, 0, ((0, 1),)), (turn, way))
        self.good(SQUARE, TWO, (2, 0, ((1, 0),)))
        self.good(SQUARE, TWO, (2, 0, ((2, 3),)), (shut,), (shut, turn), (shut, way), (turn, way), (shut, turn, way))

    def test_a_town_that_is_quiet_already(self):
        town = put(SQUARE, (5,), (1,))
        turn, way = ("turn", 0, 1, 3), ("way", 1, 0)
        self.good(town, TWO[1:], (2, 0, ()), ())
        self.good(put(SQUARE, (5,), ()), TWO[1:], (2, 0, ()), (), (turn,), (way,), (turn, way))
        self.good(put(SQUARE, (5,), ()), TWO[1:], (0, 0, ()), ())
        self.good(SQUARE, (), (99, 99, ()))
        self.good(town, (), (0, 0, ()), ())

    def test_houses(self):
        town = put(SQUARE, (4,), (1,))
        shut, turn, way = [sign for sign, _ in TWO]
        self.good(town, TWO, (2, 0, ()), (shut,), (shut, turn), (shut, way), (turn, way), (shut, turn, way))
        offers = ((("shut", 0, 1), 1), (("shut", 1, 3), 1))
        self.good(town, offers, (2, 0, ()), (shut,), (("shut", 1, 3),))
        town = (4, ((0, 1, 1), (0, 3, 5), (1, 3, 2)), (), (0, 3), (1,), (0,))
        self.good(town, offers, (2, 1, ()), (shut,), (("shut", 1, 3),))
        self.good(town, offers, (2, 0, ()), (("shut", 1, 3),))
        self.good(town, offers, (1, 1, ()))

    def test_standing_signs(self):
        town = put(SQUARE, (2,), (("turn", 0, 1, 3),))
        shut, way = ("shut", 0, 1), ("way", 1, 0)
        self.good(town, TWO[::2], (2, 0, ()), (shut,), (way,), (shut, way))
        self.good(town, TWO[::2], (2, 0, ((0, 1),)), (way,))

    def test_no_free_drive(self):
        town = put(LINE, (5,), (0,))
        self.good(town, ((("shut", 0, 1), 1),), (99, 99, ()))
        self.good(put(LINE, (5,), ()), ((("shut", 0, 1), 1),), (99, 99, ()), ())
        self.good(LOLLIPOP, ((("shut", 3, 4), 1), (("way", 3, 4), 1)), (99, 99, ()))

    def test_more_signs_can_make_a_quiet_town_loud(self):
        # Quiet without signs, loud when drives go round by the street 1, quiet again when they go by it no more.
        town = (4, ((0, 1, 1), (0, 2, 2), (0, 3, 9), (1, 3, 1), (2, 3, 2)), (), (0, 3), (), (1,))
        offers = ((("shut", 0, 1), 1), (("shut", 0, 2), 1))
        self.good(town, offers, (9, 9, ()), (), (("shut", 0, 2),), (("shut", 0, 1), ("shut", 0, 2)))

    def test_first_exception(self):
        arguments = [SQUARE, TWO, (2, 0, ()), ()]
        errors = [InvalidTown, InvalidOffers, InvalidDemand, InvalidSigns]
        wrong = [SQUARE[:5], TWO[::-1], (100, 0, ()), (("way", 0, 1),)]
        for first in range(4):
            self.assertRaises(errors[first], are_good, *arguments[:first], *wrong[first:])
            self.assertRaises(errors[first], are_good, *arguments[:first], wrong[first], *arguments[first + 1:])
