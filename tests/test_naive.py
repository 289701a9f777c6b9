"""naive_length, naive_least_price and naive_closures."""

import random
import unittest

from quietstreets.cheapest import least_price
from quietstreets.errors import InvalidDemand, InvalidOffers, InvalidPlace, InvalidSigns, InvalidTown
from quietstreets.lengths import least_length
from quietstreets.naive import naive_closures, naive_least_price, naive_length
from quietstreets.parting import fewest_closures

from reckoning import KITE, LADLE, SMALL, further_signs, small_towns
from sample_towns import (
    GRID, LINE, LOLLIPOP, SQUARE, SQUARE_SIGNS, TWO, WRONG, Agreeable, Touchy, bent, put, spoiled,
)
from weighing import CASES

SHUT, TURN, WAY = [sign for sign, _ in TWO]
BETWEEN_PLACES = (naive_length, naive_closures)


class Naive(unittest.TestCase):
    def test_example(self):
        self.assertEqual(naive_closures(SQUARE, (), 0, 3), 2)

    def test_defined_in_their_file(self):
        for function in (naive_length, naive_least_price, naive_closures):
            self.assertEqual(function.__module__, "quietstreets.naive")

    def test_lengths(self):
        self.assertEqual(naive_length(SQUARE, (), 0, 3), 2)
        self.assertEqual(naive_length(SQUARE, (SHUT,), 0, 3), 4)
        self.assertEqual(naive_length(SQUARE, (TURN,), 0, 3), 4)
        self.assertEqual(naive_length(SQUARE, (TURN,), 3, 0), 2)
        self.assertEqual(naive_length(LINE, (), 0, 1), 7)
        self.assertIsNone(naive_length(LINE, (("way", 0, 1),), 0, 1))
        self.assertIsNone(naive_length(SQUARE, (("shut", 0, 1), ("shut", 0, 2)), 0, 3))
        self.assertIsNone(naive_length(put(SQUARE, (0,), 5), (), 0, 4))
        self.assertIsNone(naive_length(put(SQUARE, (0,), 5), (), 4, 0))
        # The street 1-2 there and back, and all of the loop.
        self.assertEqual(naive_length(LOLLIPOP, (), 0, 5), 1 + 2 + 4 + 6 + 5 + 2 + 3)

    def test_least_prices(self):
        self.assertEqual(naive_least_price(SQUARE, TWO, (2, 0, ())), 2)
        self.assertEqual(naive_least_price(SQUARE, TWO[:2], (2, 0, ())), 3)
        self.assertIsNone(naive_least_price(SQUARE, TWO, (1, 0, ())))
        self.assertIsNone(naive_least_price(SQUARE, (), (9, 9, ())))
        self.assertEqual(naive_least_price(put(SQUARE, (5,), (1,)), TWO, (0, 0, ())), 0)

    def test_closures(self):
        self.assertEqual(naive_closures(SQUARE, (SHUT,), 0, 3), 1)
        self.assertEqual(naive_closures(SQUARE, (("shut", 0, 1), ("shut", 0, 2)), 0, 3), 0)
        self.assertEqual(naive_closures(LINE, (), 0, 1), 1)
        self.assertEqual(naive_closures(LINE, (("way", 0, 1),), 0, 1), 0)
        self.assertEqual(naive_closures(put(SQUARE, (0,), 5), (), 0, 4), 0)
        self.assertEqual(naive_closures(LOLLIPOP, (), 0, 5), 1)

    def test_invalid_arguments(self):
        for function in BETWEEN_PLACES:
            for value in (4, -1, True, None, "0", (0,), 10 ** 30, *WRONG, Agreeable(), Touchy()):
                self.assertRaises(InvalidPlace, function, SQUARE, (), value, 3)
                self.assertRaises(InvalidPlace, function, SQUARE, (), 0, value)
            self.assertRaises(InvalidPlace, function, SQUARE, (), 2, 2)
            for signs in ((("way", 0, 3),), (WAY, SHUT), [SHUT], SQUARE_SIGNS[:13], *WRONG, *bent((SHUT, WAY))):
                self.assertRaises(InvalidSigns, function, SQUARE, signs, 0, 3)
            self.assertRaises(InvalidSigns, function, put(SQUARE, (2,), (WAY,)), (WAY,), 0, 3)
        for offers in (*WRONG, TWO[::-1], list(TWO), *spoiled(TWO), *bent(TWO)):
            self.assertRaises(InvalidOffers, naive_least_price, SQUARE, offers, (2, 0, ()))
        for demand in (*WRONG, (100, 0, ()), (0, -1, ()), (True, 0, ()), [2, 0, ()], (2, 0, ((0, 3),)), *bent((2, 0, ()))):
            self.assertRaises(InvalidDemand, naive_least_price, SQUARE, TWO, demand)

    def test_first_exception(self):
        right = [SQUARE, (), 0, 3]
        errors = [InvalidTown, InvalidSigns, InvalidPlace, InvalidPlace]
        wrong = [SQUARE[:5], (("way", 0, 3),), 4, 4]
        for function in BETWEEN_PLACES:
            for first in range(4):
                self.assertRaises(errors[first], function, *right[:first], *wrong[first:])
        right = [SQUARE, TWO, (2, 0, ())]
        errors = [InvalidTown, InvalidOffers, InvalidDemand]
        wrong = [SQUARE[:5], TWO[::-1], (100, 0, ())]
        for first in range(3):
            self.assertRaises(errors[first], naive_least_price, *right[:first], *wrong[first:])


class TheSame(unittest.TestCase):
    def test_lengths_and_closures(self):
        chance = random.Random(81)
        lengths, closures = set(), set()
        for town, _ in small_towns(82, 4, SMALL + ((4, KITE), (5, LADLE))):
            for _ in range(5):
                signs = further_signs(chance, town, 4)
                for start in range(town[0]):
                    for goal in range(town[0]):
                        if start != goal:
                            length = naive_length(town, signs, start, goal)
                            self.assertEqual(length, least_length(town, signs, start, goal))
                            many = naive_closures(town, signs, start, goal)
                            self.assertEqual(many, fewest_closures(town, signs, start, goal))
                            self.assertIs(many == 0, length is None)
                            lengths.add(length)
                            closures.add(many)
        self.assertGreater(len(lengths), 10)
        self.assertLessEqual({0, 1, 2}, closures)

    def test_the_grid(self):
        for start in range(9):
            for goal in range(9):
                if start != goal:
                    self.assertEqual(naive_length(GRID, (), start, goal), least_length(GRID, (), start, goal))
        for start, goal in ((0, 8), (8, 0), (4, 2)):
            self.assertEqual(naive_closures(GRID, (), start, goal), fewest_closures(GRID, (), start, goal))

    def test_least_prices(self):
        seen = set()
        for case in CASES:
            found = naive_least_price(case.town, case.offers, case.demand)
            self.assertEqual(found, least_price(case.town, case.offers, case.demand))
            self.assertEqual(found, min((case.prices[bought] for bought in case.good(case.demand)), default=None))
            seen.add(found)
        self.assertLessEqual({None, 0, 1, 2, 3}, seen)
