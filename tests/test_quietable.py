"""can_be_quiet and greatest_quiet."""

import unittest

from quietstreets.demands import lacks
from quietstreets.errors import InvalidDemand, InvalidOffers, InvalidStreet, InvalidTown
from quietstreets.quietable import can_be_quiet, greatest_quiet

from reckoning import parts
from sample_towns import GRID, LINE, LOLLIPOP, SQUARE, SQUARE_SIGNS, TWO, WRONG, Agreeable, Touchy, bent, put, spoiled

SHUT, TURN, WAY = [sign for sign, _ in TWO]
DEMAND = (2, 0, ())


class Quietable(unittest.TestCase):
    def check(self, town, offers, demand, *greatest):
        """Just these tuples of streets, and some of each of them alone, can be made quiet."""
        with self.subTest(town=town, offers=offers, demand=demand):
            self.assertEqual(greatest_quiet(town, offers, demand), list(greatest))
            for streets in parts(tuple(range(len(town[1])))):
                expected = any(set(streets) <= set(other) for other in greatest)
                self.assertIs(can_be_quiet(town, offers, demand, streets), expected, streets)

    def test_examples(self):
        self.assertIs(can_be_quiet(SQUARE, TWO, (9, 9, ()), (0, 1)), False)
        self.assertEqual(greatest_quiet(SQUARE, TWO, DEMAND), [(0, 2), (1, 3)])

    def test_defined_in_their_file(self):
        for function in (can_be_quiet, greatest_quiet):
            self.assertEqual(function.__module__, "quietstreets.quietable")

    def test_no_street_one_and_all(self):
        self.assertIs(can_be_quiet(SQUARE, TWO, DEMAND, ()), True)
        for street in range(4):
            self.assertIs(can_be_quiet(SQUARE, TWO, DEMAND, (street,)), True)
            self.assertIs(can_be_quiet(SQUARE, (), DEMAND, (street,)), street in (1, 3))
        self.assertIs(can_be_quiet(SQUARE, TWO, DEMAND, (0, 1, 2, 3)), False)
        self.assertIs(can_be_quiet(LINE, (), (99, 99, ()), ()), True)
        self.assertIs(can_be_quiet(LINE, (), (99, 99, ()), (0,)), False)

    def test_all_streets(self):
        self.check(SQUARE, TWO, DEMAND, (0, 2), (1, 3))
        self.check(SQUARE, TWO, (99, 99, ()), (0, 2), (1, 3))
        self.check(SQUARE, (), DEMAND, (1, 3))
        self.check(LINE, ((("shut", 0, 1), 1),), (99, 99, ()), ())
        # Each of the two alone leaves the streets 0 and 2 to drives the other way.
        self.check(SQUARE, TWO[1:2], DEMAND, (1, 3))
        self.check(SQUARE, TWO[2:], DEMAND, (1, 3))
        self.check(SQUARE, TWO[1:], DEMAND, (0, 2), (1, 3))

    def test_the_quiet_streets_of_the_town_do_not_matter(self):
        for quiet in parts((0, 1, 2, 3)):
            self.check(put(SQUARE, (5,), quiet), TWO, DEMAND, (0, 2), (1, 3))

    def test_prices_do_not_matter(self):
        for price in (1, 5, 9):
            self.check(SQUARE, tuple((sign, price) for sign, _ in TWO), DEMAND, (0, 2), (1, 3))

    def test_demands(self):
        self.check(SQUARE, TWO, (1, 0, ()), (1, 3))
        self.check(SQUARE, TWO, (1, 99, ()), (1, 3))
        # The line by the direction 0-1 is barred by the first sign alone, the one back by two.
        self.check(SQUARE, TWO, (2, 0, ((0, 1),)), (0, 2), (1, 3))
        self.check(SQUARE, TWO, (2, 0, ((1, 0),)), (1, 3))
        self.check(SQUARE, TWO[:1], (2, 0, ((0, 1),)), (1, 3))
        self.check(SQUARE, TWO, (2, 0, ((2, 3), (3, 2))), (0, 2), (1, 3))

    def test_a_demand_that_no_signs_meet_but_none(self):
        # Without any sign nothing is longer than usual and no line is barred, so every demand is met.
        for demand in ((0, 0, ()), (1, 0, ((0, 1, 3), (3, 1, 0))), (1, 99, ())):
            for bought in parts((SHUT, TURN, WAY)):
                self.assertIs(lacks(SQUARE, bought, demand) == [], bought == ())
            self.check(SQUARE, TWO, demand, (1, 3))
        self.check(LINE, ((("shut", 0, 1), 1), (("way", 0, 1), 1), (("way", 1, 0), 1)), (99, 99, ()), ())

    def test_houses(self):
        # The house 1 is 1 from the gate 0, along the street 0, and 2 from the gate 3.
        town = (4, ((0, 1, 1), (0, 3, 5), (1, 3, 2)), (), (0, 3), (1,), ())
        offers = ((("shut", 0, 1), 1), (("shut", 1, 3), 4))
        self.check(town, offers, (2, 1, ()), (0, 2), (1,))
        self.check(town, offers[:1], (2, 0, ()), (1,))
        self.check(town, offers, (2, 0, ()), (0, 2), (1,))
        self.check(town, offers, (1, 1, ()), (1,))

    def test_signs_that_lack_only_together(self):
        # Each of the two alone leaves one way round, both together none.
        town = (4, ((0, 1, 1), (0, 2, 1), (1, 3, 1), (2, 3, 1)), (), (0, 3), (), ())
        offers = ((("shut", 0, 1), 1), (("shut", 0, 2), 1))
        self.check(town, offers, (99, 99, ()), (0, 2), (1, 3))
        self.check(town, (), (99, 99, ()), ())
        self.check(town, offers[:1], (0, 0, ()), (0, 2))

    def test_standing_signs(self):
        town = put(SQUARE, (2,), (TURN,))
        # There it goes by the streets 1 and 3 already, back by 2 and 0.
        self.check(town, (), DEMAND, ())
        self.check(town, TWO[2:], DEMAND, (0, 2))
        self.check(town, ((("turn", 0, 2, 3), 1), (("way", 1, 0), 1)), DEMAND, (0, 2))

    def test_more_signs_can_make_a_street_loud(self):
        # With the first sign drives go by the streets 1 and 4, with both by the street 2.
        town = (4, ((0, 1, 1), (0, 2, 2), (0, 3, 9), (1, 3, 1), (2, 3, 2)), (), (0, 3), (), ())
        offers = ((("shut", 0, 1), 1), (("shut", 0, 2), 1))
        self.check(town, offers, (9, 9, ()), (0, 1, 3, 4), (0, 2, 3), (1, 2, 4))
        self.check(town, offers, (6, 9, ()), (0, 2, 3), (1, 2, 4))

    def test_streets_that_no_drive_between_gates_can_take(self):
        # The dead end beside place 1, and the loop of the lollipop that no sign spares.
        town = (4, ((0, 1, 1), (1, 2, 1), (1, 3, 1)), (), (0, 2), (), ())
        self.check(town, ((("shut", 1, 3), 1),), (9, 9, ()), (2,))
        self.assertEqual(greatest_quiet(LOLLIPOP, ((("shut", 3, 4), 1),), (9, 9, ())), [()])

    def test_eight_offers(self):
        offers = tuple((sign, 1) for sign in SQUARE_SIGNS[4:12])
        self.check(SQUARE, offers, DEMAND, (0, 2), (1, 3))
        # All streets of the grid are used or not under no signs, as nothing is offered.
        self.assertEqual(len(greatest_quiet(GRID, (), (0, 0, ()))), 1)

    def test_a_new_list(self):
        first = greatest_quiet(SQUARE, TWO, DEMAND)
        self.assertIs(type(first), list)
        self.assertIs(type(first[0]), tuple)
        first.clear()
        self.assertEqual(greatest_quiet(SQUARE, TWO, DEMAND), [(0, 2), (1, 3)])

    def test_streets_that_are_none(self):
        for streets in (
            (4,), (0, 4), (-1,), (-1, 0), (1, 0), (0, 0), (0, 1, 1), (0, 1, 2, 3, 4), (True,), (False, 1), (0, True), ("0",),
            (None,), ((0,),), ([0],), (10 ** 30,), [0], [], {0}, {0: 0}, "0", 0, True, None, range(1), Agreeable(), Touchy(),
            *WRONG, *spoiled((0, 2)), *bent((0, 2)),
        ):
            with self.subTest(streets=type(streets)):
                self.assertRaises(InvalidStreet, can_be_quiet, SQUARE, TWO, DEMAND, streets)
        self.assertRaises(InvalidStreet, can_be_quiet, LINE, (), DEMAND, (1,))
        self.assertIs(can_be_quiet(GRID, (), DEMAND, tuple(range(14))), False)
        self.assertRaises(InvalidStreet, can_be_quiet, GRID, (), DEMAND, (14,))

    def test_first_exception(self):
        right = [SQUARE, TWO, DEMAND, (0,)]
        errors = [InvalidTown, InvalidOffers, InvalidDemand, InvalidStreet]
        wrong = [SQUARE[:5], TWO[::-1], (100, 0, ()), (4,)]
        for first in range(4):
            self.assertRaises(errors[first], can_be_quiet, *right[:first], *wrong[first:])
            self.assertRaises(errors[first], can_be_quiet, *right[:first], wrong[first], *right[first + 1:])
        for first in range(3):
            self.assertRaises(errors[first], greatest_quiet, *right[:first], *wrong[first:3])
