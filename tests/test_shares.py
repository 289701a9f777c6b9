"""shares and moved_shares."""

import unittest
from fractions import Fraction

from quietstreets.errors import InvalidSign, InvalidSigns, InvalidTown
from quietstreets.lengths import least_length
from quietstreets.shares import moved_shares, shares

from sample_towns import GRID, GRID_SIGNS, LINE, LOLLIPOP, SQUARE, SQUARE_SIGNS, WRONG, Agreeable, Touchy, bent, put, spoiled

SHUT, TURN, WAY = ("shut", 0, 1), ("turn", 0, 1, 3), ("way", 1, 0)
# Both ways round are as short.
EVEN = put(SQUARE, (1,), ((0, 1, 1), (0, 2, 1), (1, 3, 1), (2, 3, 1)))
# Three ways between 0 and 4, one of them longer by the street 2.
THREE = (5, ((0, 1, 1), (0, 2, 1), (0, 3, 1), (1, 4, 1), (2, 4, 1), (3, 4, 1)), (), (0, 4), (), ())


class Shares(unittest.TestCase):
    def check(self, town, signs, *expected):
        with self.subTest(town=town, signs=signs):
            found = shares(town, signs)
            self.assertEqual(found, list(expected))
            for top, bottom in found:
                self.assertIs(type(top), int)
                self.assertIs(type(bottom), int)
            pairs = [(g, h) for g in town[3] for h in town[3] if g != h]
            lengths = [least_length(town, signs, g, h) for g, h in pairs]
            self.assertEqual(
                sum(Fraction(*share) * street[2] for share, street in zip(found, town[1])),
                sum(length for length in lengths if length is not None),
            )

    def test_example(self):
        self.assertEqual(shares(SQUARE, ()), [(2, 1), (0, 1), (2, 1), (0, 1)])

    def test_defined_in_their_file(self):
        for function in (shares, moved_shares):
            self.assertEqual(function.__module__, "quietstreets.shares")

    def test_one_best_drive_each_way(self):
        self.check(SQUARE, (), (2, 1), (0, 1), (2, 1), (0, 1))
        self.check(SQUARE, (SHUT,), (0, 1), (2, 1), (0, 1), (2, 1))
        self.check(SQUARE, (TURN,), (1, 1), (1, 1), (1, 1), (1, 1))
        self.check(SQUARE, (WAY,), (1, 1), (1, 1), (1, 1), (1, 1))
        self.check(LINE, (), (2, 1))

    def test_shares_that_are_no_whole_numbers(self):
        self.check(EVEN, (), (1, 1), (1, 1), (1, 1), (1, 1))
        # There both ways, back by 2 alone.
        self.check(EVEN, (WAY,), (1, 2), (3, 2), (1, 2), (3, 2))
        self.check(EVEN, (("turn", 0, 2, 3), WAY), (1, 1), (1, 1), (1, 1), (1, 1))
        third = (2, 3)
        self.check(THREE, (), third, third, third, third, third, third)
        # Back two ways: a third and a half, and a third alone.
        five = (5, 6)
        self.check(THREE, (("way", 4, 3),), five, five, (1, 3), five, five, (1, 3))
        self.check(THREE, (("shut", 3, 4), ("way", 4, 1)), (1, 2), (3, 2), (0, 1), (1, 2), (3, 2), (0, 1))

    def test_several_drives_through_one_street(self):
        # From 0 by 1 to 4, and on to 5 by 2 or 3: each drive goes through the first street and the last one.
        streets = ((0, 1, 1), (1, 2, 1), (1, 3, 1), (2, 4, 1), (3, 4, 1), (4, 5, 1))
        self.check((6, streets, (), (0, 5), (), ()), (), (2, 1), (1, 1), (1, 1), (1, 1), (1, 1), (2, 1))

    def test_four_gates(self):
        everyone = put(SQUARE, (3,), (0, 1, 2, 3))
        # 0-1, 1-3, 0-3: twice each there and back; 0-2 and 2-3 once; 1-2 both ways round.
        self.check(everyone, (), (5, 1), (3, 1), (5, 1), (3, 1))
        self.check(put(EVEN, (3,), (0, 1, 2, 3)), (), (4, 1), (4, 1), (4, 1), (4, 1))
        found = shares(GRID, ())
        self.assertEqual(len(found), 14)
        self.check(GRID, (), *found)
        self.assertIn((0, 1), found)

    def test_pairs_without_a_free_drive(self):
        none = [(0, 1)] * 4
        self.check(SQUARE, (("shut", 0, 1), ("shut", 0, 2)), *none)
        self.check(LINE, (("shut", 0, 1),), (0, 1))
        # There by no street, back by 1: only one pair counts.
        self.check(SQUARE, (("way", 0, 1), ("way", 0, 2)), (1, 1), (0, 1), (1, 1), (0, 1))
        self.check(EVEN, (("way", 0, 1), ("way", 0, 2)), *[(1, 2)] * 4)
        self.check(LINE, (("way", 0, 1),), (1, 1))

    def test_best_drives_that_go_through_a_street_more_than_once(self):
        # Two drives each way, round behind place 2 one way or the other, so through the street 1 twice.
        self.check(LOLLIPOP, (), (2, 1), (4, 1), (2, 1), (2, 1), (2, 1), (2, 1))
        # There round by 3 first, back either way.
        self.check(LOLLIPOP, (("turn", 1, 2, 4),), (2, 1), (4, 1), (2, 1), (2, 1), (2, 1), (2, 1))
        self.check(LOLLIPOP, (("way", 3, 4), ("way", 4, 3)), *[(0, 1)] * 6)

    def test_standing_signs_houses_and_quiet_streets(self):
        self.check(put(EVEN, (2,), (WAY,)), (), (1, 2), (3, 2), (1, 2), (3, 2))
        self.check(put(EVEN, (2,), (WAY,)), (TURN,), (0, 1), (2, 1), (0, 1), (2, 1))
        self.check(put(SQUARE, (4,), (1, 2)), (), (2, 1), (0, 1), (2, 1), (0, 1))
        for quiet in ((), (0, 1, 2, 3)):
            self.check(put(SQUARE, (5,), quiet), (), (2, 1), (0, 1), (2, 1), (0, 1))

    def test_a_new_list(self):
        first = shares(SQUARE, ())
        self.assertIs(type(first), list)
        first.clear()
        self.assertEqual(shares(SQUARE, ()), [(2, 1), (0, 1), (2, 1), (0, 1)])

    def test_signs(self):
        for signs in (
            (("way", 0, 3),), (WAY, SHUT), (SHUT, SHUT), [SHUT], SHUT, None, SQUARE_SIGNS[:13], Agreeable(), Touchy(),
            *WRONG, *spoiled((SHUT, WAY)), *bent((SHUT, WAY)),
        ):
            self.assertRaises(InvalidSigns, shares, SQUARE, signs)
            self.assertRaises(InvalidSigns, moved_shares, SQUARE, signs, TURN)
        self.assertRaises(InvalidSigns, shares, GRID, (GRID_SIGNS[0],))
        self.check(SQUARE, SQUARE_SIGNS[:12], *[(0, 1)] * 4)
        self.assertRaises(InvalidTown, shares, SQUARE[:5], (("way", 0, 3),))


class MovedShares(unittest.TestCase):
    def check(self, town, signs, sign, *expected):
        with self.subTest(town=town, signs=signs, sign=sign):
            self.assertEqual(moved_shares(town, signs, sign), list(expected))
            after = shares(town, tuple(sorted((*signs, sign))))
            for moved, before, later in zip(expected, shares(town, signs), after):
                self.assertEqual(Fraction(*moved), Fraction(*later) - Fraction(*before))

    def test_example(self):
        self.assertEqual(moved_shares(SQUARE, (), ("shut", 0, 1)), [(-2, 1), (2, 1), (-2, 1), (2, 1)])

    def test_each_kind(self):
        self.check(SQUARE, (), TURN, (-1, 1), (1, 1), (-1, 1), (1, 1))
        self.check(SQUARE, (), WAY, (-1, 1), (1, 1), (-1, 1), (1, 1))
        self.check(SQUARE, (TURN,), WAY, (-1, 1), (1, 1), (-1, 1), (1, 1))
        self.check(SQUARE, (WAY,), SHUT, (-1, 1), (1, 1), (-1, 1), (1, 1))

    def test_fractions(self):
        self.check(EVEN, (), WAY, (-1, 2), (1, 2), (-1, 2), (1, 2))
        self.check(EVEN, (), SHUT, (-1, 1), (1, 1), (-1, 1), (1, 1))
        # Two thirds become five sixths or a third.
        self.check(THREE, (), ("way", 4, 3), (1, 6), (1, 6), (-1, 3), (1, 6), (1, 6), (-1, 3))

    def test_a_sign_that_moves_nothing(self):
        self.check(SQUARE, (), ("shut", 2, 3), *[(0, 1)] * 4)
        self.check(SQUARE, (SHUT,), TURN, *[(0, 1)] * 4)
        self.check(EVEN, (), ("turn", 1, 0, 2), *[(0, 1)] * 4)

    def test_pairs_that_lose_their_free_drives(self):
        self.check(SQUARE, (SHUT,), ("shut", 0, 2), (0, 1), (-2, 1), (0, 1), (-2, 1))
        self.check(EVEN, (("way", 0, 1),), ("way", 0, 2), (0, 1), (-1, 1), (0, 1), (-1, 1))
        self.check(LINE, (), ("way", 1, 0), (-1, 1))

    def test_standing_signs(self):
        town = put(EVEN, (2,), (TURN,))
        self.check(town, (), WAY, (-1, 2), (1, 2), (-1, 2), (1, 2))
        self.assertRaises(InvalidSign, moved_shares, town, (), TURN)
        self.assertRaises(InvalidSign, moved_shares, town, (WAY,), TURN)
        for sign in GRID_SIGNS:
            self.assertRaises(InvalidSign, moved_shares, GRID, (), sign)

    def test_signs_that_are_there_already(self):
        for sign in (SHUT, TURN, WAY):
            self.assertRaises(InvalidSign, moved_shares, SQUARE, (SHUT, TURN, WAY), sign)
            self.assertRaises(InvalidSign, moved_shares, SQUARE, (sign,), sign)

    def test_twelve_signs(self):
        for sign in SQUARE_SIGNS[12:]:
            self.assertRaises(InvalidSign, moved_shares, SQUARE, SQUARE_SIGNS[:12], sign)
            self.assertEqual(len(moved_shares(SQUARE, SQUARE_SIGNS[:11], sign)), 4)
        self.assertRaises(InvalidSigns, moved_shares, SQUARE, SQUARE_SIGNS[:13], SQUARE_SIGNS[13])

    def test_signs_in_any_place(self):
        # The sign comes before, between and behind the others.
        for sign in SQUARE_SIGNS:
            others = tuple(other for other in (("shut", 2, 3), ("turn", 1, 0, 2), ("way", 2, 0)) if other != sign)
            moved_shares(SQUARE, others, sign)

    def test_not_a_sign(self):
        for sign in (
            ("way", 0, 3), ("shut", 1, 0), ("turn", 0, 1, 0), ("turn", 0, 1, 2), ("way", True, 0), ["way", 0, 1], ("way", 0),
            (SHUT,), "way 0 1", None, 0, True, Agreeable(), Touchy(), *WRONG, *spoiled(TURN), *bent(TURN),
        ):
            with self.subTest(sign=type(sign)):
                self.assertRaises(InvalidSign, moved_shares, SQUARE, (), sign)
                self.assertRaises(InvalidSign, moved_shares, SQUARE, (SHUT, WAY), sign)

    def test_a_new_list(self):
        first = moved_shares(SQUARE, (), SHUT)
        self.assertIs(type(first), list)
        first.clear()
        self.check(SQUARE, (), SHUT, (-2, 1), (2, 1), (-2, 1), (2, 1))

    def test_first_exception(self):
        right = [SQUARE, (), SHUT]
        errors = [InvalidTown, InvalidSigns, InvalidSign]
        wrong = [SQUARE[:5], (("way", 0, 3),), ("way", 0, 3)]
        for first in range(3):
            self.assertRaises(errors[first], moved_shares, *right[:first], *wrong[first:])
            self.assertRaises(errors[first], moved_shares, *right[:first], wrong[first], *right[first + 1:])
