"""closed: the town without a street, and what goes with it."""

import unittest

from quietstreets.errors import InvalidStreet, InvalidTown, NoTown
from quietstreets.towns import closed, is_town

from sample_towns import GRID, LINE, LOLLIPOP, SQUARE, SQUARE_SIGNS, WRONG, put

# Every two places but 0 and 4 are joined, so that no closing parts the gates.
FULL = (
    5,
    ((0, 1, 1), (0, 2, 2), (0, 3, 3), (1, 2, 4), (1, 3, 5), (1, 4, 6), (2, 3, 7), (2, 4, 8), (3, 4, 9)),
    (),
    (0, 4),
    (1,),
    (0, 1, 2, 3, 4, 5, 6, 7, 8),
)


class Closed(unittest.TestCase):
    def test_example(self):
        self.assertEqual(closed(SQUARE, 0), (4, ((0, 2, 2), (1, 3, 1), (2, 3, 2)), (), (0, 3), (), ()))

    def test_defined_in_its_file(self):
        self.assertEqual(closed.__module__, "quietstreets.towns")

    def test_each_street_of_the_square(self):
        for at in range(4):
            streets = SQUARE[1][:at] + SQUARE[1][at + 1:]
            quiet = () if at == 0 else (0,)
            self.assertEqual(closed(SQUARE, at), (4, streets, (), (0, 3), (), quiet))

    def test_indexes_of_later_streets(self):
        for at in range(9):
            self.assertEqual(closed(FULL, at)[5], (0, 1, 2, 3, 4, 5, 6, 7))
        town = put(FULL, (5,), (1, 4, 7))
        self.assertEqual(closed(town, 0)[5], (0, 3, 6))
        self.assertEqual(closed(town, 1)[5], (3, 6))
        self.assertEqual(closed(town, 2)[5], (1, 3, 6))
        self.assertEqual(closed(town, 4)[5], (1, 6))
        self.assertEqual(closed(town, 5)[5], (1, 4, 6))
        self.assertEqual(closed(town, 7)[5], (1, 4))
        self.assertEqual(closed(town, 8)[5], (1, 4, 7))
        self.assertEqual(closed(put(FULL, (5,), ()), 3)[5], ())

    def test_the_rest_stays(self):
        for at in range(9):
            left = closed(FULL, at)
            self.assertEqual(left[0], 5)
            self.assertEqual(left[1], FULL[1][:at] + FULL[1][at + 1:])
            self.assertEqual(left[2:5], ((), (0, 4), (1,)))
            self.assertIs(is_town(left), True)

    def test_result_is_made_of_tuples(self):
        left = closed(GRID, 1)
        for part in (left, left[1], left[1][0], left[2], left[2][0], left[3], left[4], left[5]):
            self.assertIs(type(part), tuple)

    def signs_left(self, *signs):
        """For each street of FULL, the standing signs that are left when it is closed."""
        town = put(FULL, (2,), signs)
        self.assertIs(is_town(town), True)
        return {FULL[1][at][:2]: closed(town, at)[2] for at in range(9)}

    def test_ways_go_with_their_street(self):
        for sign in (("way", 1, 3), ("way", 3, 1)):
            for ends, signs in self.signs_left(sign).items():
                self.assertEqual(signs, () if ends == (1, 3) else (sign,))

    def test_shuts_go_with_their_street(self):
        for ends, signs in self.signs_left(("shut", 1, 3)).items():
            self.assertEqual(signs, () if ends == (1, 3) else (("shut", 1, 3),))

    def test_turns_go_with_both_streets(self):
        for sign in (("turn", 0, 1, 3), ("turn", 3, 1, 0)):
            for ends, signs in self.signs_left(sign).items():
                self.assertEqual(signs, () if ends in ((0, 1), (1, 3)) else (sign,))
        for sign in (("turn", 2, 3, 4), ("turn", 4, 3, 2)):
            for ends, signs in self.signs_left(sign).items():
                self.assertEqual(signs, () if ends in ((2, 3), (3, 4)) else (sign,))

    def test_turns_do_not_go_with_a_street_between_their_ends(self):
        # Place 0 and place 2 are ends of the turn, and of a street that it does not have.
        sign = ("turn", 0, 1, 2)
        self.assertEqual(self.signs_left(sign)[(0, 2)], (sign,))

    def test_several_signs(self):
        signs = (
            ("shut", 0, 3), ("turn", 0, 1, 4), ("turn", 2, 1, 4),
            ("turn", 4, 2, 3), ("way", 1, 2), ("way", 3, 2),
        )
        left = self.signs_left(*signs)
        self.assertEqual(left[(0, 1)], signs[:1] + signs[2:])
        self.assertEqual(left[(0, 2)], signs)
        self.assertEqual(left[(0, 3)], signs[1:])
        self.assertEqual(left[(1, 2)], signs[:2] + signs[3:4] + signs[5:])
        self.assertEqual(left[(1, 3)], signs)
        self.assertEqual(left[(1, 4)], signs[:1] + signs[3:])
        self.assertEqual(left[(2, 3)], signs[:3] + signs[4:5])
        self.assertEqual(left[(2, 4)], signs[:3] + signs[4:])
        self.assertEqual(left[(3, 4)], signs)

    def test_signs_that_go_are_no_longer_in_the_way(self):
        # Without the street 1-3 also its turns are gone; the others stay.
        town = put(SQUARE, (2,), (("turn", 0, 1, 3), ("turn", 3, 1, 0), ("way", 0, 1)))
        self.assertEqual(closed(town, 2), (4, ((0, 1, 1), (0, 2, 2), (2, 3, 2)), (("way", 0, 1),), (0, 3), (), (0,)))
        self.assertEqual(closed(town, 0), (4, ((0, 2, 2), (1, 3, 1), (2, 3, 2)), (), (0, 3), (), ()))

    def test_closed_again(self):
        self.assertEqual(closed(closed(SQUARE, 0), 1), (4, ((0, 2, 2), (2, 3, 2)), (), (0, 3), (), ()))


class NoTownLeft(unittest.TestCase):
    def none(self, town, *streets):
        for street in streets:
            with self.subTest(town=town, street=street):
                self.assertIs(is_town(town), True)
                with self.assertRaises(NoTown):
                    closed(town, street)

    def test_the_only_street(self):
        self.none(LINE, 0)

    def test_gates_apart(self):
        self.none((3, ((0, 1, 1), (1, 2, 1)), (), (0, 2), (), ()), 0, 1)
        for street in range(3):
            self.none(closed(SQUARE, 0), 0, 2)
        self.assertEqual(closed(closed(SQUARE, 0), 1)[1], ((0, 2, 2), (2, 3, 2)))

    def test_house_apart(self):
        town = (4, ((0, 1, 1), (0, 3, 1), (1, 3, 1), (2, 3, 1)), (), (0, 3), (2,), ())
        self.none(town, 3)
        for street in range(3):
            self.assertIs(is_town(closed(town, street)), True)

    def test_standing_signs_that_stay(self):
        town = put(SQUARE, (2,), (("turn", 0, 1, 3),))
        self.none(town, 1, 3)
        self.assertEqual(closed(town, 0)[2], ())
        self.assertEqual(closed(town, 2)[2], ())
        for sign in (("way", 2, 3), ("way", 2, 0), ("shut", 0, 2), ("turn", 3, 2, 0)):
            town = put(SQUARE, (2,), (sign,))
            self.none(town, 0, 2)

    def test_house_that_no_longer_leads_out(self):
        town = (4, ((0, 1, 1), (0, 3, 1), (1, 3, 1)), (("way", 1, 0),), (0, 3), (1,), (1,))
        self.none(town, 2)
        self.assertEqual(closed(town, 0), (4, ((0, 3, 1), (1, 3, 1)), (), (0, 3), (1,), (0,)))

    def test_house_that_is_no_longer_come_to(self):
        town = (4, ((0, 1, 1), (0, 3, 1), (1, 3, 1)), (("way", 0, 1),), (0, 3), (1,), ())
        self.none(town, 2)

    def test_no_way_round_any_more(self):
        self.none(LOLLIPOP, 0, 1, 2, 3, 4, 5)

    def test_closed_without_a_barred_street_is_a_town(self):
        # The street is of no use, as it is shut; it goes together with the sign.
        town = put(SQUARE, (2,), (("shut", 0, 1),))
        self.assertEqual(closed(town, 0), (4, ((0, 2, 2), (1, 3, 1), (2, 3, 2)), (), (0, 3), (), ()))

    def test_changes_nothing(self):
        for _ in range(2):
            self.none(LOLLIPOP, 3)
            self.assertIs(is_town(LOLLIPOP), True)


class Wrong(unittest.TestCase):
    def test_invalid_street(self):
        for town, many in ((SQUARE, 4), (LINE, 1), (GRID, 14)):
            for street in (*WRONG, (), (0,), (0, 1, 1), True, False, -1, -many, many, many + 1, 10 ** 30, -10 ** 30):
                with self.subTest(street=street), self.assertRaises(InvalidStreet):
                    closed(town, street)

    def test_index_of_the_last_street(self):
        town = (9, GRID[1], (), (0, 2), (), (13,))
        self.assertEqual(closed(town, 13), (9, GRID[1][:13], (), (0, 2), (), ()))
        with self.assertRaises(InvalidStreet):
            closed(town, 14)

    def test_invalid_town(self):
        for value in (*WRONG, True, 0, SQUARE[:5], put(SQUARE, (5,), (4,)), list(SQUARE)):
            for street in (0, 3, None, -1):
                with self.subTest(value=value), self.assertRaises(InvalidTown):
                    closed(value, street)

    def test_invalid_town_before_no_town(self):
        apart = put(SQUARE, (2,), SQUARE_SIGNS[:4])
        with self.assertRaises(InvalidTown):
            closed(apart, 0)
