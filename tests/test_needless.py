"""needless_signs and breaking_streets."""

import unittest

from quietstreets.errors import InvalidDemand, InvalidOffers, InvalidSigns, InvalidTown, NotGood, NoTown
from quietstreets.needless import breaking_streets, needless_signs
from quietstreets.towns import closed

from reckoning import parts
from sample_towns import LINE, LOLLIPOP, SQUARE, SQUARE_SIGNS, TWO, WRONG, Agreeable, Touchy, bent, put, spoiled

SHUT, TURN, WAY = [sign for sign, _ in TWO]
DEMAND = (2, 0, ())
BOTH = (needless_signs, breaking_streets)

# Quiet without signs; with the first one loud, as drives go by the street 1; with both quiet again.
LOUD_BETWEEN = (4, ((0, 1, 1), (0, 2, 2), (0, 3, 9), (1, 3, 1), (2, 3, 2)), (), (0, 3), (), (1,))
LOUD_OFFERS = ((("shut", 0, 1), 1), (("shut", 0, 2), 1))


class Needless(unittest.TestCase):
    def check(self, town, offers, demand, signs, expected):
        with self.subTest(town=town, demand=demand, signs=signs):
            self.assertEqual(needless_signs(town, offers, demand, signs), expected)

    def test_example(self):
        self.assertEqual(needless_signs(SQUARE, TWO, (2, 0, ()), (("shut", 0, 1), ("way", 1, 0))), [("way", 1, 0)])

    def test_defined_in_their_file(self):
        for function in BOTH:
            self.assertEqual(function.__module__, "quietstreets.needless")

    def test_each_good_signs(self):
        self.check(SQUARE, TWO, DEMAND, (SHUT,), [])
        self.check(SQUARE, TWO, DEMAND, (SHUT, TURN), [TURN])
        self.check(SQUARE, TWO, DEMAND, (SHUT, WAY), [WAY])
        self.check(SQUARE, TWO, DEMAND, (TURN, WAY), [])
        # Each of the three, though not all of them at once.
        self.check(SQUARE, TWO, DEMAND, (SHUT, TURN, WAY), [SHUT, TURN, WAY])

    def test_none_where_no_signs_are_needed(self):
        town = put(SQUARE, (5,), ())
        self.check(town, TWO, DEMAND, (), [])
        self.check(town, (), (0, 0, ()), (), [])
        for sign in (SHUT, TURN, WAY):
            self.check(town, TWO, DEMAND, (sign,), [sign])
        self.check(town, TWO, DEMAND, (SHUT, TURN, WAY), [SHUT, TURN, WAY])

    def test_others_alone_may_be_loud_where_fewer_are_not(self):
        self.check(LOUD_BETWEEN, LOUD_OFFERS, (9, 9, ()), (), [])
        self.check(LOUD_BETWEEN, LOUD_OFFERS, (9, 9, ()), (("shut", 0, 2),), [("shut", 0, 2)])
        self.check(LOUD_BETWEEN, LOUD_OFFERS, (9, 9, ()), (("shut", 0, 1), ("shut", 0, 2)), [("shut", 0, 1)])

    def test_the_order_is_that_of_the_signs(self):
        offers = tuple((sign, 9 - at) for at, sign in enumerate(SQUARE_SIGNS[12:]))
        # Of all ways, two on each side of the square are enough, but barring both sides bars all.
        signs = (("way", 0, 1), ("way", 1, 0), ("way", 1, 3), ("way", 3, 1))
        self.check(SQUARE, offers, DEMAND, signs, list(signs))
        self.check(SQUARE, offers, DEMAND, signs[:2], [])
        self.check(SQUARE, offers, DEMAND, signs[:3], [("way", 0, 1), ("way", 1, 3)])

    def test_standing_signs(self):
        town = put(SQUARE, (2,), (WAY,))
        self.check(town, TWO[:2], DEMAND, (TURN,), [])
        self.check(town, TWO[:2], DEMAND, (SHUT, TURN), [SHUT, TURN])

    def test_a_new_list(self):
        signs = (SHUT, WAY)
        first = needless_signs(SQUARE, TWO, DEMAND, signs)
        self.assertIs(type(first), list)
        first.clear()
        self.check(SQUARE, TWO, DEMAND, signs, [WAY])


class Breaking(unittest.TestCase):
    def check(self, town, offers, demand, signs, expected):
        with self.subTest(town=town, demand=demand, signs=signs):
            self.assertEqual(breaking_streets(town, offers, demand, signs), expected)

    def test_example(self):
        self.assertEqual(breaking_streets(SQUARE, TWO, (2, 0, ()), (("shut", 0, 1),)), [1, 3])

    def test_each_good_signs(self):
        # Without the street 1 or 3 all must go by the street 0, which the signs bar.
        for signs in ((SHUT,), (SHUT, TURN), (SHUT, WAY), (TURN, WAY), (SHUT, TURN, WAY)):
            self.check(SQUARE, TWO, DEMAND, signs, [1, 3])
        # With the other way alone, that is by the street 2, the signs there are gone with it.
        self.check(SQUARE, ((("shut", 1, 3), 1),), DEMAND, (("shut", 1, 3),), [1, 3])

    def test_loud_without_the_street(self):
        # No signs are needed, as the street 1 is quiet and all go by 0 and 2; without one of these they go by 1.
        town = put(SQUARE, (5,), (1,))
        self.check(town, TWO, DEMAND, (), [0, 2])
        self.check(town, (), (0, 0, ()), (), [0, 2])
        self.check(put(SQUARE, (5,), (1, 3)), TWO, DEMAND, (), [0, 2])

    def test_none(self):
        self.check(put(SQUARE, (5,), ()), TWO, DEMAND, (), [])
        self.check(put(SQUARE, (5,), ()), TWO, (0, 0, ()), (), [])

    def test_no_town_is_left(self):
        # Without its only street, or one of two in a row, it is no town, so nothing breaks.
        self.check(LINE, (), DEMAND, (), [])
        self.check((3, ((0, 1, 1), (1, 2, 1)), (), (0, 2), (), ()), (), DEMAND, (), [])
        row = (3, ((0, 1, 1), (1, 2, 1)), (), (0, 1), (2,), ())
        self.check(row, (), DEMAND, (), [])
        for street in (0, 1):
            self.assertRaises(NoTown, closed, row, street)
        # Only the streets of the ring can be closed, and then the way round is loud.
        ring = (4, ((0, 1, 1), (1, 2, 1), (1, 3, 1), (2, 3, 1)), (), (0, 2), (), (2,))
        self.check(ring, (), DEMAND, (), [1])

    def test_signs_that_bar_the_street(self):
        # The street 0 is shut by the sign, or barred in one direction: without it the sign is gone.
        for sign in (SHUT, ("way", 0, 1), WAY):
            town = put(SQUARE, (5,), ())
            self.check(town, ((sign, 1),), DEMAND, (sign,), [1, 3])

    def test_turns_that_have_a_direction_of_the_street(self):
        # The turn at place 1 is gone without the street 0 or 2, but bars the only way without the street 1 or 3.
        town = put(SQUARE, (5,), ())
        for turn in (TURN, ("turn", 3, 1, 0)):
            self.check(town, ((turn, 1),), DEMAND, (turn,), [1, 3])
        for turn in (("turn", 0, 2, 3), ("turn", 3, 2, 0)):
            self.check(town, ((turn, 1),), DEMAND, (turn,), [0, 2])
        for turn in (("turn", 1, 0, 2), ("turn", 2, 3, 1)):
            self.check(town, ((turn, 1),), DEMAND, (turn,), [])

    def test_growths_are_against_the_town_with_the_closed_street(self):
        # Three ways of 2, 4 and 6 from 0 to 4. The sign bars the one of 4 or of 6.
        streets = ((0, 1, 1), (0, 2, 2), (0, 3, 3), (1, 4, 1), (2, 4, 2), (3, 4, 3))
        town = (5, streets, (), (0, 4), (), ())
        # Without the first way it is 4 instead of 2 usually, but the sign makes nothing longer.
        self.check(town, ((("shut", 0, 3), 1),), (0, 0, ()), (("shut", 0, 3),), [])
        # Without the first way it is 6 instead of 4.
        for growth, expected in ((0, [0, 3]), (1, [0, 3]), (2, []), (3, []), (99, [])):
            self.check(town, ((("shut", 0, 2), 1),), (growth, 0, ()), (("shut", 0, 2),), expected)
        # The way of 2 is barred: 4 instead of 2, and 6 instead of 2 without the second way.
        for growth, expected in ((2, [1, 4]), (3, [1, 4]), (4, [])):
            self.check(town, ((("shut", 0, 1), 1),), (growth, 0, ()), (("shut", 0, 1),), expected)

    def test_houses(self):
        # The house 1 is 1 from the gate 0, 2 from the gate 3 and 9 from it another way.
        town = (4, ((0, 1, 1), (0, 3, 1), (1, 2, 4), (1, 3, 2), (2, 3, 5)), (), (0, 3), (1,), ())
        offers = ((("shut", 0, 1), 1), (("shut", 1, 3), 1))
        for home, expected in ((0, [0]), (6, [0]), (7, []), (99, [])):
            self.check(town, offers, (99, home, ()), (("shut", 1, 3),), expected)
        # Without 0-3, too, the gates are then joined by way of 2 alone.
        for through, expected in ((0, [0, 1]), (6, [0, 1]), (7, [0]), (99, [0])):
            self.check(town, offers, (through, 6, ()), (("shut", 1, 3),), expected)

    def test_lines_through_the_street(self):
        # A line that goes through the closed street asks nothing, one that does not stays as it is.
        for lines in (((0, 2, 3),), ((3, 2, 0),), ((1, 3),), ((0, 2), (2, 3)), ((0, 2), (1, 3), (2, 3))):
            self.check(SQUARE, TWO, (2, 0, lines), (SHUT,), [1, 3])
            self.check(SQUARE, TWO, (2, 0, lines), (SHUT, TURN), [1, 3])
        for lines in (((0, 1),), ((0, 1), (1, 3), (3, 2, 0)), ((2, 0, 1),)):
            self.check(SQUARE, TWO, (2, 0, lines), (TURN, WAY), [1, 3])

    def test_standing_signs_go_with_the_street(self):
        # The standing turn is gone without the street 0 or 2, and bars the way there without 1 or 3: no town then.
        town = put(SQUARE, (2,), (TURN,))
        self.check(town, TWO[2:], DEMAND, (WAY,), [])
        self.check(put(town, (5,), ()), TWO[2:], DEMAND, (), [])
        self.assertRaises(NoTown, closed, town, 1)
        # A sign at the other way: without the street 0 or 2 all must go by it.
        sign = ("way", 2, 0)
        self.check(put(town, (5,), ()), ((sign, 1),), DEMAND, (sign,), [0, 2])

    def test_later_streets_have_other_indexes_then(self):
        # The quiet street is the last one; without one of the ring it is in use.
        town = (5, ((0, 1, 1), (0, 4, 1), (1, 2, 1), (2, 3, 1), (3, 4, 1)), (), (0, 2), (), (4,))
        self.check(town, (), DEMAND, (), [0, 2])
        self.check(put(town, (5,), (3,)), (), DEMAND, (), [0, 2])
        self.check(put(town, (5,), (0,)), ((("shut", 0, 1), 1),), DEMAND, (("shut", 0, 1),), [1, 3, 4])

    def test_a_new_list(self):
        first = breaking_streets(SQUARE, TWO, DEMAND, (SHUT,))
        self.assertIs(type(first), list)
        first.clear()
        self.check(SQUARE, TWO, DEMAND, (SHUT,), [1, 3])


class Exceptions(unittest.TestCase):
    def test_not_good(self):
        good = ((SHUT,), (SHUT, TURN), (SHUT, WAY), (TURN, WAY), (SHUT, TURN, WAY))
        for function in BOTH:
            for bought in parts((SHUT, TURN, WAY)):
                if bought in good:
                    function(SQUARE, TWO, DEMAND, bought)
                else:
                    self.assertRaises(NotGood, function, SQUARE, TWO, DEMAND, bought)
                # All of them make something longer by 2, or leave the town loud.
                self.assertRaises(NotGood, function, SQUARE, TWO, (1, 0, ()), bought)
            # A quiet town, but a line is barred, or a house too far, or no drive is left.
            self.assertRaises(NotGood, function, SQUARE, TWO, (2, 0, ((1, 0),)), (SHUT,))
            house = (4, ((0, 1, 1), (0, 3, 5), (1, 3, 2)), (), (0, 3), (1,), (0,))
            self.assertRaises(NotGood, function, house, TWO[:1], (2, 0, ()), (SHUT,))
            function(house, TWO[:1], (2, 1, ()), (SHUT,))
            self.assertRaises(NotGood, function, LINE, ((("way", 0, 1), 1),), (99, 99, ()), (("way", 0, 1),))
            self.assertRaises(NotGood, function, LOLLIPOP, (), (99, 99, ()), ())

    def test_not_bought(self):
        for signs in (
            (("way", 0, 1),), (SHUT, ("way", 3, 1)), (WAY, SHUT), (SHUT, SHUT), [SHUT], [], SHUT, TWO, TWO[:1], None, "way",
            (None,), 0, True, (("way", 1, False),), SQUARE_SIGNS[:12], SQUARE_SIGNS, Agreeable(), Touchy(), *WRONG,
            *spoiled((SHUT, WAY)), *bent((SHUT, WAY)),
        ):
            for function in BOTH:
                with self.subTest(signs=type(signs)):
                    self.assertRaises(InvalidSigns, function, SQUARE, TWO, DEMAND, signs)
        for function in BOTH:
            self.assertRaises(InvalidSigns, function, SQUARE, TWO[1:], DEMAND, (SHUT,))

    def test_first_exception(self):
        right = [SQUARE, TWO, DEMAND, (SHUT,)]
        errors = [InvalidTown, InvalidOffers, InvalidDemand, InvalidSigns]
        wrong = [SQUARE[:5], TWO[::-1], (100, 0, ()), (WAY, SHUT)]
        for function in BOTH:
            for first in range(4):
                self.assertRaises(errors[first], function, *right[:first], *wrong[first:])
                self.assertRaises(errors[first], function, *right[:first], wrong[first], *right[first + 1:])
                # Signs that are not good come last.
                self.assertRaises(errors[first], function, *right[:first], wrong[first], *[*right[:3], (WAY,)][first + 1:])
            self.assertRaises(NotGood, function, *right[:3], (WAY,))
