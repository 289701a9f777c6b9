"""is_town: streets, signs, gates, houses, quiet streets, and the free drives that must exist."""

import unittest
from itertools import combinations

from quietstreets.towns import is_town

from sample_towns import GRID, GRID_SIGNS, GRID_STREETS, LINE, LOLLIPOP, SQUARE, SQUARE_SIGNS, WRONG, put, spoiled

RING = ((0, 1, 1), (0, 2, 2), (1, 3, 1), (2, 3, 2))


class Cases(unittest.TestCase):
    def yes(self, *values):
        for value in values:
            with self.subTest(value=value):
                self.assertIs(is_town(value), True)

    def no(self, *values):
        for value in values:
            with self.subTest(value=value):
                self.assertIs(is_town(value), False)


class Examples(Cases):
    def test_example(self):
        self.yes(SQUARE)

    def test_other_towns(self):
        self.yes(LINE, GRID, LOLLIPOP)

    def test_defined_in_its_file(self):
        self.assertEqual(is_town.__module__, "quietstreets.towns")


class WrongValues(Cases):
    def test_other_things(self):
        self.no(*WRONG, True, False, 0, 2, -1, 10 ** 30)

    def test_one_wrong_item(self):
        for town in (SQUARE, LINE, GRID, LOLLIPOP):
            for value in spoiled(town):
                self.assertIs(is_town(value), False, value)

    def test_number_of_parts(self):
        for town in (SQUARE, GRID):
            self.no(town + ((),), town + (None,), (None,) + town, ())
            for at in range(6):
                self.no(town[:at] + town[at + 1:], town[:at])

    def test_parts_in_another_order(self):
        places, streets, signs, gates, houses, quiet = GRID
        self.no(
            (streets, places, signs, gates, houses, quiet),
            (places, signs, streets, gates, houses, quiet),
            (places, streets, signs, houses, gates, quiet),
            (places, streets, gates, signs, houses, quiet),
        )


class Places(Cases):
    def test_bounds(self):
        self.yes((2, ((0, 1, 1),), (), (0, 1), (), ()))
        self.yes((9, ((0, 1, 1),), (), (0, 1), (), ()))
        self.no((10, ((0, 1, 1),), (), (0, 1), (), ()))
        self.no((1, ((0, 1, 1),), (), (0, 1), (), ()))
        self.no((0, ((0, 1, 1),), (), (0, 1), (), ()))
        self.no((-2, ((0, 1, 1),), (), (0, 1), (), ()))

    def test_greatest_place(self):
        self.yes((9, ((0, 8, 1),), (), (0, 8), (), ()))
        self.no((8, ((0, 8, 1),), (), (0, 8), (), ()))
        self.no((9, ((0, 9, 1),), (), (0, 9), (), ()))
        self.no((9, ((0, 8, 1), (0, 9, 1)), (), (0, 8), (), ()))
        self.no((3, ((0, 1, 1), (1, 3, 1)), (), (0, 1), (), ()))

    def test_places_without_streets(self):
        self.yes((3, ((0, 2, 1),), (), (0, 2), (), ()))


class Streets(Cases):
    def town(self, *streets):
        return (4, streets, (), (0, 1), (), ())

    def test_number(self):
        self.no(self.town())
        self.yes(self.town((0, 1, 1)))
        self.assertEqual(len(GRID_STREETS), 14)
        self.yes((9, GRID_STREETS, (), (0, 8), (), ()))
        for more in ((1, 3, 1), (1, 5, 1), (4, 6, 1)):
            self.no((9, tuple(sorted(GRID_STREETS + (more,))), (), (0, 8), (), ()))

    def test_length(self):
        self.yes(self.town((0, 1, 1)), self.town((0, 1, 2)), self.town((0, 1, 98)), self.town((0, 1, 99)))
        self.no(self.town((0, 1, 0)), self.town((0, 1, -1)), self.town((0, 1, 100)), self.town((0, 1, 10 ** 20)))
        self.no(self.town((0, 1, 1), (1, 2, 0)), self.town((0, 1, 1), (1, 2, 100)))

    def test_places_of_a_street(self):
        self.no(self.town((1, 0, 1)), self.town((0, 1, 1), (2, 1, 1)))
        self.no(self.town((0, 0, 1), (0, 1, 1)), self.town((0, 1, 1), (1, 1, 1)))
        self.no(self.town((-1, 1, 1), (0, 1, 1)), self.town((-2, -1, 1), (0, 1, 1)))
        self.no(self.town((0, 1, 1), (0, 4, 1)), self.town((0, 1, 1), (4, 5, 1)))

    def test_number_of_items_of_a_street(self):
        self.no(self.town((0, 1)), self.town((0, 1, 1, 1)), self.town(()), self.town((0,)))
        self.no(self.town((0, 1, 1), (1, 2)), self.town((0, 1, 1), (1, 2, 1, 1)))

    def test_out_of_order(self):
        for at in range(3):
            swapped = RING[:at] + (RING[at + 1], RING[at]) + RING[at + 2:]
            self.no((4, swapped, (), (0, 3), (), ()))
        self.no((4, RING[::-1], (), (0, 3), (), ()))

    def test_ordered_by_places_not_by_lengths(self):
        self.yes(self.town((0, 1, 9), (0, 2, 8), (1, 2, 7)))
        self.no(self.town((1, 2, 7), (0, 2, 8), (0, 1, 9)))

    def test_twice(self):
        self.no(self.town((0, 1, 1), (0, 1, 1)), self.town((0, 1, 1), (1, 2, 3), (1, 2, 3)))

    def test_two_streets_between_the_same_places(self):
        self.no(self.town((0, 1, 1), (0, 1, 2)), self.town((0, 1, 1), (0, 2, 5), (0, 2, 9)))

    def test_same_length_for_different_places(self):
        self.yes(self.town((0, 1, 5), (0, 2, 5), (1, 2, 5)))


class StandingSigns(Cases):
    """On a ring of four places whose gates 0 and 1 are joined by a street without signs."""

    def town(self, *signs):
        return (4, RING, signs, (0, 1), (), ())

    def test_each_kind(self):
        self.yes(self.town(("shut", 2, 3)), self.town(("way", 2, 3)), self.town(("way", 3, 2)))
        self.yes(self.town(("turn", 0, 2, 3)), self.town(("turn", 3, 2, 0)))

    def test_number(self):
        signs = tuple(sign for sign in SQUARE_SIGNS if sign[1:3] not in ((0, 1), (1, 0)))
        for many in range(7):
            self.yes(self.town(*signs[:many]), self.town(*signs[-many:]) if many else self.town())
        for at in range(len(signs) - 6):
            self.no(self.town(*signs[at:at + 7]))
        self.no(self.town(*signs[:8]), self.town(*signs))

    def test_seven_at_the_grid(self):
        more = tuple(sorted(GRID_SIGNS + (("way", 7, 6),)))
        for left in combinations(more, 6):
            self.yes(put(GRID, (2,), left))
        self.no(put(GRID, (2,), more))

    def test_places_not_joined(self):
        self.no(self.town(("shut", 0, 3)), self.town(("way", 0, 3)), self.town(("way", 1, 2)))
        self.no(self.town(("turn", 0, 3, 2)), self.town(("turn", 1, 2, 3)))
        self.no(self.town(("turn", 2, 3, 0)), self.town(("turn", 2, 0, 3)), self.town(("turn", 0, 1, 2)))

    def test_places_out_of_range(self):
        self.no(self.town(("shut", 3, 4)), self.town(("way", 4, 3)), self.town(("way", -1, 0)))
        self.no(self.town(("turn", 2, 3, 4)), self.town(("turn", -1, 2, 3)))

    def test_one_place_only(self):
        self.no(self.town(("shut", 2, 2)), self.town(("way", 2, 2)), self.town(("turn", 2, 2, 2)))
        self.no(self.town(("turn", 2, 2, 3)), self.town(("turn", 2, 3, 3)))

    def test_shut_has_the_lesser_place_first(self):
        self.no(self.town(("shut", 3, 2)), self.town(("shut", 2, 0)))

    def test_turn_goes_to_a_third_place(self):
        self.no(self.town(("turn", 2, 3, 2)), self.town(("turn", 3, 2, 3)))

    def test_number_of_items(self):
        self.no(self.town(("shut", 2)), self.town(("shut", 2, 3, 1)), self.town(("shut",)))
        self.no(self.town(("way", 2)), self.town(("way", 2, 3, 1)), self.town(("way", 0, 2, 3)))
        self.no(self.town(("turn", 2, 3)), self.town(("turn", 0, 2, 3, 1)), self.town(("turn", 2)))
        self.no(self.town(()), self.town((2, 3)))

    def test_kinds(self):
        self.no(self.town(("", 2, 3)), self.town(("Way", 2, 3)), self.town(("ways", 2, 3)), self.town(("wa", 2, 3)))
        self.no(self.town((0, 2, 3)), self.town((None, 2, 3)), self.town((2, 3, "way")), self.town(("open", 2, 3)))

    def test_order(self):
        self.yes(self.town(("shut", 2, 3), ("turn", 0, 2, 3), ("way", 2, 3), ("way", 3, 2)))
        self.no(self.town(("way", 2, 3), ("shut", 2, 3)), self.town(("way", 3, 2), ("way", 2, 3)))
        self.no(self.town(("turn", 0, 2, 3), ("shut", 2, 3)), self.town(("way", 2, 3), ("turn", 0, 2, 3)))

    def test_twice(self):
        self.no(self.town(("shut", 2, 3), ("shut", 2, 3)), self.town(("way", 2, 3), ("way", 2, 3)))
        self.no(self.town(("turn", 0, 2, 3), ("turn", 0, 2, 3)))


class Gates(Cases):
    def town(self, *gates):
        return (5, RING + ((3, 4, 1),), (), gates, (), ())

    def test_number(self):
        self.no(self.town(), self.town(0), self.town(4))
        self.yes(self.town(0, 3), self.town(0, 2, 3), self.town(0, 1, 2, 3), self.town(1, 2, 3, 4))
        self.no(self.town(0, 1, 2, 3, 4))

    def test_order(self):
        self.no(self.town(3, 0), self.town(0, 2, 1), self.town(1, 0, 2), self.town(3, 2, 1, 0))

    def test_twice(self):
        self.no(self.town(0, 0), self.town(0, 1, 1), self.town(0, 0, 1))

    def test_range(self):
        self.no(self.town(0, 5), self.town(-1, 0), self.town(0, 9))
        self.yes(self.town(0, 4))


class Houses(Cases):
    def town(self, *houses):
        return (6, RING + ((3, 4, 1), (4, 5, 1)), (), (0, 3), houses, ())

    def test_number(self):
        self.yes(self.town(), self.town(1), self.town(1, 2), self.town(1, 2, 4), self.town(2, 4, 5))
        self.no(self.town(1, 2, 4, 5))

    def test_no_house_is_a_gate(self):
        self.no(self.town(0), self.town(3), self.town(0, 1), self.town(1, 3), self.town(1, 2, 3))
        self.no(put(GRID, (4,), (1, 2, 3)), put(GRID, (4,), (1, 3, 8)))

    def test_order(self):
        self.no(self.town(2, 1), self.town(1, 4, 2), self.town(5, 4))

    def test_twice(self):
        self.no(self.town(1, 1), self.town(1, 2, 2))

    def test_range(self):
        self.no(self.town(6), self.town(-1), self.town(1, 6), self.town(-1, 1))
        self.yes(self.town(5))

    def test_all_places_may_be_gates_or_houses(self):
        self.yes((4, RING, (), (0, 3), (1, 2), ()), (4, RING, (), (1, 2), (0, 3), ()))


class Quiet(Cases):
    def town(self, *quiet):
        return (4, RING, (), (0, 3), (), quiet)

    def test_any_of_the_indexes(self):
        for many in range(5):
            for quiet in combinations(range(4), many):
                self.yes(self.town(*quiet))
        self.yes(put(GRID, (5,), tuple(range(14))), put(GRID, (5,), (13,)), put(GRID, (5,), ()))

    def test_range(self):
        self.no(self.town(4), self.town(-1), self.town(0, 4), self.town(-1, 0), put(GRID, (5,), (14,)))
        self.no((9, RING, (), (0, 3), (), (4,)))

    def test_order(self):
        self.no(self.town(1, 0), self.town(0, 2, 1), self.town(3, 2, 1, 0))

    def test_twice(self):
        self.no(self.town(0, 0), self.town(1, 2, 2), self.town(0, 1, 2, 3, 3))

    def test_streets_instead_of_indexes(self):
        self.no(self.town((0, 1, 1)), self.town((0, 1)))


class GatesMustBeJoined(Cases):
    def test_without_streets(self):
        self.no((3, ((0, 1, 1),), (), (0, 2), (), ()), (3, ((0, 1, 1),), (), (0, 1, 2), (), ()))
        self.no((3, ((1, 2, 1),), (), (0, 1), (), ()))

    def test_two_parts(self):
        parts = ((0, 1, 1), (2, 3, 1))
        self.yes((4, parts, (), (0, 1), (), ()), (4, parts, (), (2, 3), (), ()))
        self.no((4, parts, (), (0, 2), (), ()), (4, parts, (), (1, 3), (), ()))
        self.no((4, parts, (), (0, 1, 2), (), ()), (4, parts, (), (0, 1, 2, 3), (), ()))

    def test_through_another_gate(self):
        path = ((0, 1, 1), (1, 2, 1), (2, 3, 1))
        self.yes((4, path, (), (0, 1, 2), (), ()), (4, path, (), (0, 1, 2, 3), (), ()))

    def test_through_a_house(self):
        self.yes((3, ((0, 1, 1), (1, 2, 1)), (), (0, 2), (1,), ()))

    def test_both_ways_are_asked_for(self):
        path = ((0, 1, 1), (1, 2, 1))
        for sign in (("way", 0, 1), ("way", 1, 0), ("way", 1, 2), ("way", 2, 1)):
            self.no((3, path, (sign,), (0, 2), (), ()))
        for sign in (("turn", 0, 1, 2), ("turn", 2, 1, 0), ("shut", 0, 1), ("shut", 1, 2)):
            self.no((3, path, (sign,), (0, 2), (), ()))

    def test_each_pair_is_asked_for(self):
        star = ((0, 4, 1), (1, 4, 1), (2, 4, 1), (3, 4, 1))
        gates = (0, 1, 2, 3)
        self.yes((5, star, (), gates, (), ()))
        for start in gates:
            for goal in gates:
                if start != goal:
                    self.no((5, star, (("turn", start, 4, goal),), gates, (), ()))
                    rest = tuple(gate for gate in gates if gate != goal)
                    self.yes((5, star, (("turn", start, 4, goal),), rest, (), ()))

    def test_a_way_round_is_enough(self):
        self.yes((4, RING, (("shut", 0, 1),), (0, 3), (), ()), (4, RING, (("way", 0, 1),), (0, 3), (), ()))
        self.yes((4, RING, (("turn", 0, 1, 3),), (0, 3), (), ()))
        self.no((4, RING, (("shut", 0, 1), ("shut", 2, 3)), (0, 3), (), ()))
        self.no((4, RING, (("way", 0, 1), ("way", 2, 3)), (0, 3), (), ()))
        self.no((4, RING, (("turn", 0, 1, 3), ("turn", 0, 2, 3)), (0, 3), (), ()))
        self.no((4, RING, (("shut", 0, 1), ("turn", 0, 2, 3)), (0, 3), (), ()))
        self.no((4, RING, (("turn", 0, 1, 3), ("way", 2, 3)), (0, 3), (), ()))

    def test_there_one_way_and_back_another(self):
        self.yes((4, RING, (("way", 1, 0), ("way", 2, 3)), (0, 3), (), ()))
        self.yes((4, RING, (("turn", 0, 1, 3), ("turn", 3, 2, 0)), (0, 3), (), ()))
        self.no((4, RING, (("way", 0, 1), ("way", 2, 3)), (0, 3), (), ()))

    def test_a_turn_bars_only_those_who_come_that_way(self):
        # From place 1 itself, and from place 4, the direction (1, 3) is free.
        streets = ((0, 1, 1), (0, 4, 1), (1, 3, 1), (1, 4, 1))
        self.yes((5, streets, (("turn", 0, 1, 3),), (0, 3), (), ()))
        self.no((5, streets, (("way", 1, 3),), (0, 3), (), ()))
        self.no((5, streets, (("turn", 0, 1, 3), ("turn", 4, 1, 3)), (0, 3), (), ()))

    def test_signs_elsewhere_do_not_matter(self):
        self.yes((4, ((0, 1, 1), (2, 3, 1)), (("shut", 2, 3),), (0, 1), (), ()))


class GoingRound(Cases):
    # Place 1 between the gates 0 and 2, where the turns are barred, and the
    # triangle 1, 3, 4 or the dead ends 3 and 4 beside it.
    TURNS = (("turn", 0, 1, 2), ("turn", 2, 1, 0))
    TRIANGLE = ((0, 1, 1), (1, 2, 1), (1, 3, 1), (1, 4, 1), (3, 4, 1))

    def test_back_at_the_same_place(self):
        self.yes((5, self.TRIANGLE, self.TURNS, (0, 2), (), ()))

    def test_nobody_turns_round(self):
        self.no((5, self.TRIANGLE[:4], self.TURNS, (0, 2), (), ()))
        self.no((4, self.TRIANGLE[:3], self.TURNS, (0, 2), (), ()))
        self.no((4, self.TRIANGLE[:3], self.TURNS[:1], (0, 2), (), ()))
        self.no((4, self.TRIANGLE[:3], self.TURNS[1:], (0, 2), (), ()))

    def test_nobody_turns_round_at_a_gate(self):
        self.no((5, self.TRIANGLE[:4], self.TURNS, (0, 2, 3), (), ()))
        self.no((5, self.TRIANGLE[:4], self.TURNS, (0, 2), (3,), ()))

    def test_round_only_one_way(self):
        there = ("way", 3, 4)
        self.yes((5, self.TRIANGLE, self.TURNS + (there,), (0, 2), (), ()))
        self.no((5, self.TRIANGLE, self.TURNS + (there, ("way", 4, 3)), (0, 2), (), ()))

    def test_round_is_barred(self):
        self.no((5, self.TRIANGLE, (("shut", 3, 4),) + self.TURNS, (0, 2), (), ()))
        # Round as before, but not out of it to the gate.
        behind = (("turn", 0, 1, 2), ("turn", 3, 1, 2), ("turn", 4, 1, 2))
        self.no((5, self.TRIANGLE, behind, (0, 2), (), ()))
        self.yes((5, self.TRIANGLE, behind[:2], (0, 2), (), ()), (5, self.TRIANGLE, behind[::2], (0, 2), (), ()))

    def test_back_through_the_same_street(self):
        self.yes(LOLLIPOP)
        places, streets, signs, gates, houses, quiet = LOLLIPOP
        for at in range(3, 6):
            rest = streets[:at] + streets[at + 1:]
            self.no((places, rest, signs, gates, houses, ()))
        self.no((places, streets, signs + (("way", 2, 1),), gates, houses, quiet))
        self.no((places, streets, (("shut", 1, 2),) + signs, gates, houses, quiet))

    def test_round_to_come_by_another_street(self):
        # 0, 1, 3, 2, 4: those who come to 2 from 1 may not go on to 4.
        streets = ((0, 1, 1), (1, 2, 1), (1, 3, 1), (2, 3, 1), (2, 4, 1))
        self.yes((5, streets, (("turn", 1, 2, 4), ("turn", 4, 2, 1)), (0, 4), (), ()))
        self.no((5, streets, (("turn", 1, 2, 4), ("turn", 3, 2, 4)), (0, 4), (), ()))


class HousesMustBeJoined(Cases):
    # Gates 0 and 3 with a street of their own, and the house 1 between them.
    STREETS = ((0, 1, 1), (0, 3, 1), (1, 3, 1))
    # The house 1 at the end of a street from place 2, between the gates.
    SIDE = ((0, 2, 1), (1, 2, 1), (2, 3, 1))

    def town(self, *signs):
        return (4, self.STREETS, signs, (0, 3), (1,), ())

    def side(self, *signs):
        return (4, self.SIDE, signs, (0, 3), (1,), ())

    def test_without_signs(self):
        self.yes(self.town(), self.side())

    def test_no_street(self):
        self.no((4, ((0, 3, 1),), (), (0, 3), (1,), ()), (5, self.STREETS, (), (0, 3), (1, 4), ()))
        self.no((5, ((0, 3, 1), (1, 2, 1)), (), (0, 3), (1,), ()), (5, ((0, 3, 1), (1, 2, 1)), (), (0, 3), (1, 2), ()))

    def test_not_come_to(self):
        self.no(self.town(("way", 0, 1), ("way", 3, 1)), self.side(("way", 2, 1)))
        self.no(self.side(("turn", 0, 2, 1), ("turn", 3, 2, 1)))

    def test_leads_to_none(self):
        self.no(self.town(("way", 1, 0), ("way", 1, 3)), self.side(("way", 1, 2)))
        self.no(self.side(("turn", 1, 2, 0), ("turn", 1, 2, 3)))

    def test_shut(self):
        self.no(self.town(("shut", 0, 1), ("shut", 1, 3)), self.side(("shut", 1, 2)))
        self.yes(self.town(("shut", 0, 1)), self.town(("shut", 1, 3)))

    def test_one_gate_is_enough(self):
        self.yes(self.town(("way", 0, 1)), self.town(("way", 1, 0)), self.town(("way", 3, 1)), self.town(("way", 1, 3)))
        self.yes(self.side(("turn", 0, 2, 1)), self.side(("turn", 1, 2, 3)))

    def test_from_one_gate_to_another(self):
        self.yes(self.town(("way", 1, 0), ("way", 3, 1)), self.town(("way", 0, 1), ("way", 1, 3)))
        self.yes(self.side(("turn", 0, 2, 1), ("turn", 1, 2, 3)), self.side(("turn", 1, 2, 0), ("turn", 3, 2, 1)))
        self.yes(self.side(("turn", 0, 2, 1), ("turn", 1, 2, 0)), self.side(("turn", 1, 2, 3), ("turn", 3, 2, 1)))

    def test_one_house_of_several(self):
        streets = ((0, 1, 1), (0, 2, 1), (0, 3, 1), (2, 3, 1))
        self.yes((4, streets, (), (0, 3), (1, 2), ()), (4, streets, (("way", 0, 1),), (0, 3), (2,), ()))
        self.no((4, streets, (("way", 0, 1),), (0, 3), (1, 2), ()), (4, streets, (("way", 1, 0),), (0, 3), (1, 2), ()))
        streets = ((0, 1, 1), (0, 3, 1), (1, 3, 1), (2, 3, 1))
        self.no((4, streets, (("way", 2, 3),), (0, 3), (1, 2), ()), (4, streets, (("way", 3, 2),), (0, 3), (1, 2), ()))

    def test_through_another_house(self):
        streets = ((0, 1, 1), (0, 3, 1), (1, 2, 1))
        self.yes((4, streets, (), (0, 3), (1, 2), ()), (4, streets, (), (0, 3), (2,), ()))
        self.no((4, streets, (("turn", 0, 1, 2),), (0, 3), (1, 2), ()))
        self.no((4, streets, (("turn", 2, 1, 0),), (0, 3), (1, 2), ()))

    def test_houses_need_no_drives_between_them(self):
        streets = ((0, 1, 1), (0, 2, 1), (0, 3, 1))
        self.yes((4, streets, (("turn", 1, 0, 2), ("turn", 2, 0, 1)), (0, 3), (1, 2), ()))

    def test_going_round_to_a_house(self):
        # From 0 and 3 the turns to the house 1 are barred, behind 4 and 5 not.
        streets = ((0, 2, 1), (1, 2, 1), (2, 3, 1), (2, 4, 1), (2, 5, 1), (4, 5, 1))
        turns = (("turn", 0, 2, 1), ("turn", 3, 2, 1))
        self.yes((6, streets, turns, (0, 3), (1,), ()))
        self.no((6, streets[:5], turns, (0, 3), (1,), ()))
        turns = (("turn", 1, 2, 0), ("turn", 1, 2, 3))
        self.yes((6, streets, turns, (0, 3), (1,), ()))
        self.no((6, streets[:5], turns, (0, 3), (1,), ()))
