"""is_demand, growths, home_growths and lacks."""

import unittest

from quietstreets.demands import growths, home_growths, is_demand, lacks
from quietstreets.errors import InvalidDemand, InvalidSigns, InvalidTown

from sample_towns import GRID, LINE, LOLLIPOP, SQUARE, SQUARE_SIGNS, WRONG, Agreeable, Touchy, bent, put, spoiled

# The gates 0 and 3 and the houses 1 and 2, each beside both gates.
RING = put(SQUARE, (4,), (1, 2))
# A street of length 1 between the gates, and a way round of length 101.
ROUND = (3, ((0, 1, 1), (0, 2, 99), (1, 2, 2)), (), (0, 1), (), ())
# The same for the house 1, which has no other street.
HOUSE = (4, ((0, 3, 1), (1, 2, 99), (1, 3, 1), (2, 3, 2)), (), (0, 3), (1,), ())


class IsDemand(unittest.TestCase):
    def yes(self, *values, town=SQUARE):
        for value in values:
            with self.subTest(value=value):
                self.assertIs(is_demand(town, value), True)

    def no(self, *values, town=SQUARE):
        for value in values:
            with self.subTest(value=value):
                self.assertIs(is_demand(town, value), False)
                self.assertRaises(InvalidDemand, lacks, town, (), value)

    def test_example(self):
        self.yes((2, 0, ((1, 3),)))

    def test_defined_in_their_file(self):
        for function in (is_demand, growths, home_growths, lacks):
            self.assertEqual(function.__module__, "quietstreets.demands")

    def test_numbers(self):
        self.yes((0, 0, ()), (99, 99, ()), (0, 99, ()), (99, 0, ()), (50, 1, ()))
        self.no((100, 0, ()), (0, 100, ()), (-1, 0, ()), (0, -1, ()), (10 ** 30, 0, ()), (0, -10 ** 30, ()))

    def test_true_and_false(self):
        self.no((True, 0, ()), (0, True, ()), (False, 0, ()), (0, False, ()))

    def test_number_of_lines(self):
        lines = ((0, 1), (0, 1, 3), (1, 3), (2, 0, 1))
        for many in range(4):
            self.yes((1, 1, lines[:many]), (1, 1, lines[4 - many:]))
        self.no((1, 1, lines))

    def test_order_of_lines(self):
        self.no((1, 1, ((1, 3), (0, 1))), (1, 1, ((0, 1), (0, 2), (0, 1, 3))), (1, 1, ((0, 1, 3), (0, 1))))
        self.yes((1, 1, ((0, 1), (0, 1, 3), (0, 2))))

    def test_a_line_twice(self):
        self.no((1, 1, ((0, 1), (0, 1))), (1, 1, ((0, 1), (1, 3), (1, 3))))
        # A line and the line back are two.
        self.yes((1, 1, ((0, 1, 3), (3, 1, 0))))

    def test_lines_are_drives(self):
        self.yes((1, 1, ((0, 1, 3, 2, 0),)), (1, 1, ((0, 1, 3, 2, 0, 1, 3, 2, 0),)), (1, 1, ((1, 0, 2),)))
        self.no((1, 1, ((0,),)), (1, 1, ((),)), (1, 1, ((0, 3),)), (1, 1, ((0, 1, 0),)), (1, 1, ((0, 0),)))
        self.no((1, 1, ((0, 4),)), (1, 1, ((-1, 0),)), (1, 1, ((0, True),)), (1, 1, ((False, 1),)))
        self.no((1, 1, (0, 1)), (1, 1, ([0, 1],)), (1, 1, [(0, 1)]), (1, 1, ("01",)), (1, 1, (None,)))
        self.no((1, 1, ((0, 1), (0, 3))), (1, 1, ((0, 1), (1, 2))))

    def test_lines_are_free(self):
        town = put(SQUARE, (2,), (("turn", 0, 1, 3),))
        self.yes((1, 1, ((0, 1), (1, 3))), (1, 1, ((3, 1, 0),)), town=town)
        self.no((1, 1, ((0, 1, 3),)), (1, 1, ((0, 1), (2, 0, 1, 3))), (1, 1, ((0, 1, 3, 2),)), town=town)
        town = put(SQUARE, (2,), (("way", 0, 1),))
        self.yes((1, 1, ((1, 0), (1, 0, 2))), town=town)
        self.no((1, 1, ((0, 1),)), (1, 1, ((2, 0, 1),)), (1, 1, ((1, 0), (2, 0, 1))), town=town)
        town = put(SQUARE, (2,), (("shut", 0, 1),))
        self.yes((1, 1, ((0, 2, 3, 1),)), town=town)
        self.no((1, 1, ((0, 1),)), (1, 1, ((1, 0),)), (1, 1, ((0, 1, 3),)), town=town)

    def test_number_of_items(self):
        self.no((), (1,), (1, 1), (1, 1, (), ()), (1, ()), ((), 1, 1), (1, (), 1))

    def test_other_things(self):
        self.no(*WRONG, [1, 1, ()], 1, True, Agreeable(), Touchy(), {1: 1}, "11()", (1, 1, None), ("1", 1, ()), (1, None, ()))
        demand = (2, 0, ((0, 1, 3), (1, 3)))
        self.yes(demand)
        self.no(*spoiled(demand), *bent(demand))

    def test_invalid_town(self):
        for town in (*WRONG, SQUARE[:5], put(SQUARE, (3,), (0, 4))):
            for value in ((2, 0, ()), None, ()):
                self.assertRaises(InvalidTown, is_demand, town, value)


class Growths(unittest.TestCase):
    def check(self, town, signs, expected):
        with self.subTest(town=town, signs=signs):
            self.assertEqual(growths(town, signs), expected)

    def test_example(self):
        self.check(SQUARE, (("shut", 0, 1),), [(0, 3, 2), (3, 0, 2)])

    def test_without_signs(self):
        self.check(SQUARE, (), [(0, 3, 0), (3, 0, 0)])
        self.check(LINE, (), [(0, 1, 0), (1, 0, 0)])
        self.check(LOLLIPOP, (), [(0, 5, 0), (5, 0, 0)])
        self.check(GRID, (), [(g, h, 0) for g in (0, 2, 6, 8) for h in (0, 2, 6, 8) if g != h])

    def test_each_kind_of_sign(self):
        self.check(SQUARE, (("way", 0, 1),), [(0, 3, 2), (3, 0, 0)])
        self.check(SQUARE, (("turn", 3, 1, 0),), [(0, 3, 0), (3, 0, 2)])
        self.check(SQUARE, (("shut", 2, 3),), [(0, 3, 0), (3, 0, 0)])
        self.check(SQUARE, (("turn", 3, 1, 0), ("way", 0, 1)), [(0, 3, 2), (3, 0, 2)])

    def test_no_growth(self):
        self.check(SQUARE, (("shut", 0, 1), ("shut", 0, 2)), [(0, 3, None), (3, 0, None)])
        self.check(SQUARE, (("way", 0, 1), ("way", 0, 2)), [(0, 3, None), (3, 0, 0)])
        self.check(SQUARE, (("shut", 0, 1), ("turn", 3, 2, 0)), [(0, 3, 2), (3, 0, None)])
        self.check(LINE, (("shut", 0, 1),), [(0, 1, None), (1, 0, None)])

    def test_growth_is_over_that_under_the_standing_signs(self):
        self.check(put(SQUARE, (2,), (("shut", 0, 1),)), (), [(0, 3, 0), (3, 0, 0)])
        town = put(SQUARE, (2,), (("turn", 0, 1, 3),))
        self.check(town, (), [(0, 3, 0), (3, 0, 0)])
        self.check(town, (("shut", 0, 1),), [(0, 3, 0), (3, 0, 2)])
        self.check(LOLLIPOP, (("way", 3, 4),), [(0, 5, 0), (5, 0, 0)])
        self.check(LOLLIPOP, (("shut", 3, 4),), [(0, 5, None), (5, 0, None)])

    def test_all_pairs_in_order(self):
        town = put(SQUARE, (3,), (0, 1, 2, 3))
        self.check(town, (("shut", 0, 1),), [
            (0, 1, 4), (0, 2, 0), (0, 3, 2), (1, 0, 4), (1, 2, 0), (1, 3, 0),
            (2, 0, 0), (2, 1, 0), (2, 3, 0), (3, 0, 2), (3, 1, 0), (3, 2, 0),
        ])
        self.check(put(SQUARE, (3,), (1, 2, 3)), (("way", 1, 3),), [
            (1, 2, 0), (1, 3, 4), (2, 1, 0), (2, 3, 0), (3, 1, 0), (3, 2, 0),
        ])

    def test_great_growths(self):
        self.check(ROUND, (("shut", 0, 1),), [(0, 1, 100), (1, 0, 100)])

    def test_other_lengths_do_not_count(self):
        # The drives to and from a house grow, those between the gates do not.
        self.check(HOUSE, (("shut", 1, 3),), [(0, 3, 0), (3, 0, 0)])

    def test_a_new_list(self):
        first = growths(SQUARE, ())
        self.assertIs(type(first), list)
        first.clear()
        self.check(SQUARE, (), [(0, 3, 0), (3, 0, 0)])

    def test_invalid(self):
        for function in (growths, home_growths):
            for signs in (*WRONG, [], None, (("way", 0, 3),), SQUARE_SIGNS[:13], (("way", 0, 1), ("shut", 0, 1))):
                self.assertRaises(InvalidSigns, function, SQUARE, signs)
                self.assertRaises(InvalidTown, function, None, signs)


class HomeGrowths(unittest.TestCase):
    def check(self, town, signs, expected):
        with self.subTest(town=town, signs=signs):
            self.assertEqual(home_growths(town, signs), expected)

    def test_example(self):
        self.check(SQUARE, (), [])

    def test_without_signs(self):
        self.check(RING, (), [(1, 0, 0), (2, 0, 0)])
        self.check(GRID, (), [(1, 0, 0), (3, 0, 0), (4, 0, 0)])

    def test_no_houses(self):
        self.check(SQUARE, (("shut", 0, 1),), [])
        self.check(SQUARE, (("shut", 0, 1), ("shut", 0, 2)), [])

    def test_the_nearest_gate_counts(self):
        # The house 1 is 1 from both gates, the house 2 is 2 from both.
        self.check(RING, (("shut", 0, 1),), [(1, 0, 0), (2, 0, 0)])
        self.check(RING, (("shut", 0, 1), ("shut", 0, 2)), [(1, 0, 0), (2, 0, 0)])
        self.check(RING, (("shut", 0, 1), ("shut", 1, 3)), [(1, None, None), (2, 0, 0)])
        self.check(RING, (("way", 0, 1), ("way", 3, 1)), [(1, None, 0), (2, 0, 0)])
        self.check(RING, (("way", 1, 0), ("way", 1, 3)), [(1, 0, None), (2, 0, 0)])

    def test_in_and_out(self):
        self.check(HOUSE, (("shut", 1, 3),), [(1, 100, 100)])
        self.check(HOUSE, (("way", 1, 3),), [(1, 0, 100)])
        self.check(HOUSE, (("way", 3, 1),), [(1, 100, 0)])
        self.check(HOUSE, (("shut", 1, 3), ("way", 1, 2)), [(1, 100, None)])
        self.check(HOUSE, (("way", 1, 3), ("way", 2, 1)), [(1, 0, 100)])

    def test_another_gate_may_become_the_nearest(self):
        # From 0 to the house 1 it is 1, from 3 it is 2.
        town = (4, ((0, 1, 1), (0, 3, 5), (1, 3, 2)), (), (0, 3), (1,), ())
        self.check(town, (("way", 0, 1),), [(1, 1, 0)])
        self.check(town, (("way", 1, 0),), [(1, 0, 1)])
        self.check(town, (("way", 1, 3),), [(1, 0, 0)])
        self.check(town, (("shut", 0, 1),), [(1, 1, 1)])

    def test_turns(self):
        # The turn to the house 1 at place 2 is barred for those from 0 only.
        town = (4, ((0, 2, 1), (1, 2, 1), (2, 3, 3)), (), (0, 3), (1,), ())
        self.check(town, (("turn", 0, 2, 1),), [(1, 2, 0)])
        self.check(town, (("turn", 1, 2, 0),), [(1, 0, 2)])
        self.check(town, (("turn", 0, 2, 1), ("turn", 3, 2, 1)), [(1, None, 0)])

    def test_standing_signs(self):
        town = put(put(HOUSE, (2,), (("way", 1, 3),)), (4,), (1,))
        self.check(town, (), [(1, 0, 0)])
        self.check(town, (("way", 3, 1),), [(1, 100, 0)])
        self.check(town, (("way", 1, 2),), [(1, 0, None)])

    def test_houses_beside_houses(self):
        # The nearest gate counts, however near another house is.
        town = (4, ((0, 1, 5), (0, 3, 1), (1, 2, 1)), (), (0, 3), (1, 2), ())
        self.check(town, (("shut", 0, 1),), [(1, None, None), (2, None, None)])
        self.check(town, (("turn", 0, 1, 2),), [(1, 0, 0), (2, None, 0)])

    def test_a_new_list(self):
        first = home_growths(RING, ())
        self.assertIs(type(first), list)
        first.clear()
        self.check(RING, (), [(1, 0, 0), (2, 0, 0)])


class Lacks(unittest.TestCase):
    def check(self, town, signs, demand, expected):
        with self.subTest(town=town, signs=signs, demand=demand):
            self.assertEqual(lacks(town, signs, demand), expected)

    def test_example(self):
        self.check(SQUARE, (("shut", 0, 1),), (1, 0, ()), [("through", 0, 3), ("through", 3, 0)])

    def test_none(self):
        self.check(SQUARE, (), (0, 0, ()), [])
        self.check(SQUARE, (), (0, 0, ((0, 1), (1, 3), (3, 2, 0))), [])
        self.check(GRID, (), (0, 0, ((0, 4), (4, 8))), [])

    def test_through(self):
        signs = (("shut", 0, 1),)
        both = [("through", 0, 3), ("through", 3, 0)]
        for through in range(6):
            self.check(SQUARE, signs, (through, 0, ()), [] if through >= 2 else both)
        self.check(SQUARE, (("way", 0, 1),), (1, 99, ()), both[:1])
        self.check(SQUARE, (("way", 1, 0),), (1, 99, ()), both[1:])

    def test_99(self):
        both = [("through", 0, 1), ("through", 1, 0)]
        self.check(ROUND, (("shut", 0, 1),), (99, 0, ()), both)
        town = put(ROUND, (1, 2), (1, 2, 1))
        self.check(town, (("shut", 0, 1),), (99, 0, ()), [])
        self.check(town, (("shut", 0, 1),), (98, 0, ()), both)

    def test_no_growth(self):
        self.check(LINE, (("shut", 0, 1),), (99, 99, ()), [("through", 0, 1), ("through", 1, 0)])
        self.check(LINE, (("way", 1, 0),), (99, 99, ()), [("through", 1, 0)])
        houses = [("in", 1), ("out", 1)]
        self.check(RING, (("shut", 0, 1), ("shut", 1, 3)), (99, 99, ()), houses)

    def test_home(self):
        house = [("in", 1), ("out", 1)]
        self.check(HOUSE, (("shut", 1, 3),), (0, 99, ()), house)
        town = put(HOUSE, (1, 3), (2, 3, 1))
        self.check(town, (("shut", 1, 3),), (0, 99, ()), [])
        self.check(town, (("shut", 1, 3),), (0, 98, ()), house)
        self.check(town, (("way", 1, 3),), (0, 98, ()), house[1:])
        self.check(town, (("way", 3, 1),), (0, 98, ()), house[:1])

    def test_just_home_and_one_above(self):
        town = (4, ((0, 1, 1), (0, 3, 5), (1, 3, 2)), (), (0, 3), (1,), ())
        self.check(town, (("shut", 0, 1),), (9, 1, ()), [])
        self.check(town, (("shut", 0, 1),), (9, 0, ()), [("in", 1), ("out", 1)])

    def test_through_and_home_are_told_apart(self):
        town = (4, ((0, 1, 1), (0, 3, 9), (1, 3, 2)), (), (0, 3), (1,), ())
        signs = (("shut", 0, 1),)
        gates = [("through", 0, 3), ("through", 3, 0)]
        house = [("in", 1), ("out", 1)]
        self.check(town, signs, (6, 1, ()), [])
        self.check(town, signs, (5, 1, ()), gates)
        self.check(town, signs, (6, 0, ()), house)
        self.check(town, signs, (5, 0, ()), house + gates)
        self.check(town, signs, (0, 5, ()), gates)

    def test_lines(self):
        lines = ((0, 1, 3), (1, 0), (2, 3))
        self.check(SQUARE, (("turn", 0, 1, 3),), (9, 9, lines), [("line", 0)])
        self.check(SQUARE, (("way", 1, 0),), (9, 9, lines), [("line", 1)])
        self.check(SQUARE, (("shut", 0, 1),), (9, 9, lines), [("line", 0), ("line", 1)])
        self.check(SQUARE, (("shut", 2, 3),), (9, 9, lines), [("line", 2)])
        self.check(SQUARE, (("way", 3, 2),), (9, 9, lines), [])
        self.check(SQUARE, (("shut", 0, 1), ("way", 1, 3)), (9, 9, lines[2:]), [])
        self.check(SQUARE, (("shut", 0, 1), ("way", 2, 3)), (9, 9, lines), [
            ("line", 0), ("line", 1), ("line", 2), ("through", 0, 3),
        ])

    def test_order(self):
        signs = (("shut", 0, 1), ("shut", 1, 3), ("way", 2, 3))
        self.check(RING, signs, (0, 0, ((0, 1), (2, 3))), [
            ("in", 1), ("line", 0), ("line", 1), ("out", 1), ("through", 0, 3), ("through", 3, 0),
        ])

    def test_all_pairs_of_gates(self):
        town = put(SQUARE, (3,), (0, 1, 2, 3))
        self.check(town, (("shut", 0, 1),), (1, 0, ()), [
            ("through", 0, 1), ("through", 0, 3), ("through", 1, 0), ("through", 3, 0),
        ])
        self.check(town, (("shut", 0, 1),), (2, 0, ()), [("through", 0, 1), ("through", 1, 0)])
        self.check(town, (("shut", 0, 1),), (4, 0, ()), [])

    def test_standing_signs(self):
        town = put(SQUARE, (2,), (("shut", 0, 1),))
        self.check(town, (), (0, 0, ((0, 2),)), [])
        self.check(town, (("way", 0, 2),), (99, 0, ((0, 2),)), [("line", 0), ("through", 0, 3)])

    def test_signs_that_contain_others_lack_at_least_as_much(self):
        demand = (1, 0, ((0, 1), (1, 3, 2)))
        signs = SQUARE_SIGNS[4::3]
        for many in range(len(signs)):
            for fewer in (signs[:many], signs[many:]):
                found = lacks(RING, fewer, demand)
                for sign in SQUARE_SIGNS:
                    if sign not in fewer:
                        more = lacks(RING, tuple(sorted(fewer + (sign,))), demand)
                        self.assertEqual([what for what in found if what not in more], [])

    def test_a_new_list(self):
        first = lacks(SQUARE, (("shut", 0, 1),), (1, 0, ()))
        self.assertIs(type(first), list)
        first.clear()
        self.check(SQUARE, (("shut", 0, 1),), (1, 0, ()), [("through", 0, 3), ("through", 3, 0)])

    def test_invalid(self):
        for demand in (None, (1, 0), (100, 0, ()), (0, 0, ((0, 3),))):
            self.assertRaises(InvalidDemand, lacks, SQUARE, (), demand)
            for signs in (None, [], (("way", 0, 3),), SQUARE_SIGNS[:13]):
                self.assertRaises(InvalidSigns, lacks, SQUARE, signs, demand)
                self.assertRaises(InvalidTown, lacks, SQUARE[:5], signs, demand)
        # A line that a standing sign bars.
        town = put(SQUARE, (2,), (("way", 0, 1),))
        self.assertRaises(InvalidDemand, lacks, town, (), (9, 9, ((0, 1),)))
