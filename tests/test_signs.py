"""are_signs: what signs are, and which of them are signs for a town."""

import unittest

from quietstreets.errors import InvalidTown
from quietstreets.towns import are_signs

from sample_towns import GRID, GRID_SIGNS, LINE, LOLLIPOP, SQUARE, SQUARE_SIGNS, WRONG, put, spoiled


class Cases(unittest.TestCase):
    def yes(self, town, *values):
        for value in values:
            with self.subTest(value=value):
                self.assertIs(are_signs(town, value), True)

    def no(self, town, *values):
        for value in values:
            with self.subTest(value=value):
                self.assertIs(are_signs(town, value), False)


class Signs(Cases):
    def test_example(self):
        self.yes(SQUARE, (("shut", 0, 1),))

    def test_defined_in_its_file(self):
        self.assertEqual(are_signs.__module__, "quietstreets.towns")

    def test_none(self):
        for town in (SQUARE, LINE, GRID, LOLLIPOP):
            self.yes(town, ())

    def test_each_sign_of_the_streets(self):
        for sign in SQUARE_SIGNS:
            self.yes(SQUARE, (sign,))

    def test_no_other_sign(self):
        places = range(-1, 6)
        for a in places:
            for b in places:
                for kind in ("way", "shut", "turn"):
                    value = (kind, a, b)
                    self.assertIs(are_signs(SQUARE, (value,)), value in SQUARE_SIGNS, value)
                    for c in places:
                        value = (kind, a, b, c)
                        self.assertIs(are_signs(SQUARE, (value,)), value in SQUARE_SIGNS, value)

    def test_number(self):
        for many in range(13):
            self.yes(SQUARE, SQUARE_SIGNS[:many], SQUARE_SIGNS[20 - many:])
        for many in range(13, 21):
            self.no(SQUARE, SQUARE_SIGNS[:many], SQUARE_SIGNS[20 - many:])

    def test_number_does_not_count_the_standing_ones(self):
        town = put(SQUARE, (2,), SQUARE_SIGNS[:1])
        self.yes(town, SQUARE_SIGNS[1:13])
        self.no(town, SQUARE_SIGNS[1:14])

    def test_they_may_leave_no_drives(self):
        self.yes(SQUARE, SQUARE_SIGNS[:4])
        self.yes(LINE, (("shut", 0, 1),), (("shut", 0, 1), ("way", 0, 1), ("way", 1, 0)))

    def test_order(self):
        for at in range(11):
            signs = SQUARE_SIGNS[:at] + (SQUARE_SIGNS[at + 1], SQUARE_SIGNS[at])
            self.no(SQUARE, signs)
        self.no(SQUARE, SQUARE_SIGNS[:12][::-1])

    def test_twice(self):
        for sign in SQUARE_SIGNS:
            self.no(SQUARE, (sign, sign))
        self.no(SQUARE, SQUARE_SIGNS[:5] + SQUARE_SIGNS[4:6])

    def test_standing(self):
        for sign in GRID_SIGNS:
            self.no(GRID, (sign,), tuple(sorted((sign, ("shut", 0, 3)))), tuple(sorted((sign, ("way", 7, 8)))))
        self.no(GRID, GRID_SIGNS)

    def test_like_a_standing_one(self):
        # Other signs of the same streets are not standing themselves.
        self.yes(GRID, (("way", 4, 7),), (("way", 7, 4),), (("turn", 2, 1, 0),), (("turn", 0, 1, 4),))
        self.yes(GRID, (("shut", 0, 1),), (("way", 1, 0),), (("shut", 4, 5),), (("way", 4, 5),))

    def test_in_order_behind_standing_ones(self):
        # The order is that of these signs alone.
        self.yes(GRID, (("shut", 0, 1), ("shut", 7, 8), ("way", 8, 7)))

    def test_places_not_joined(self):
        self.no(GRID, (("shut", 0, 2),), (("way", 1, 3),), (("turn", 0, 1, 5),), (("turn", 2, 3, 4),))
        self.no(GRID, (("shut", 0, 1), ("shut", 0, 2)), (("shut", 0, 1), ("turn", 0, 1, 5)))

    def test_other_things(self):
        for town in (SQUARE, GRID):
            self.no(town, *WRONG, True, False, 0, 1, -1, SQUARE, LINE)

    def test_one_wrong_item(self):
        for town, signs in (
            (SQUARE, SQUARE_SIGNS[2:8]),
            (SQUARE, SQUARE_SIGNS[10:16]),
            (LINE, (("shut", 0, 1), ("way", 0, 1), ("way", 1, 0))),
            (GRID, (("shut", 0, 1), ("turn", 0, 1, 4), ("way", 1, 0))),
        ):
            self.yes(town, signs)
            for value in spoiled(signs):
                self.assertIs(are_signs(town, value), False, value)

    def test_number_of_items(self):
        for sign in SQUARE_SIGNS:
            self.no(SQUARE, (sign[:-1],), (sign + (0,),), (sign + (1,),), (sign[1:],), sign, (sign, ()))

    def test_invalid_town(self):
        for value in (*WRONG, True, 0, SQUARE[:5], put(SQUARE, (3,), (0, 4)), list(SQUARE)):
            for signs in ((), (("shut", 0, 1),), None):
                with self.assertRaises(InvalidTown):
                    are_signs(value, signs)
        with self.assertRaises(InvalidTown):
            are_signs(put(SQUARE, (2,), (("shut", 0, 1), ("shut", 0, 2))), ())
