"""Drives: what they are, their length, what bars them, and which are free."""

import unittest

from quietstreets.drives import bars, drive_length, is_drive, is_free
from quietstreets.errors import InvalidDrive, InvalidSign, InvalidSigns, InvalidTown

from sample_towns import GRID, LINE, LOLLIPOP, SQUARE, SQUARE_SIGNS, WRONG, put, spoiled

# A drive of LOLLIPOP that goes through the street 1-2 both ways.
ROUND = (0, 1, 2, 3, 4, 2, 1, 5)

# No drives of SQUARE.
NO_DRIVES = (
    (), (0,), (3,), (0, 0), (0, 3), (1, 2), (0, 4), (4, 0), (-1, 0), (0, -1), (0, 9), (0, 10 ** 30),
    (0, 1, 0), (0, 1, 1), (0, 0, 1), (0, 1, 2), (0, 3, 1), (0, 1, 3, 1), (0, 1, 3, 2, 3), (1, 0, 1, 3),
    (0, 1, 3, 2, 0, 2), (0, 1, 3, 0), (0, 1, 3, 4), (True, 0), (0, True), (False, 1), (1, False),
    (0, True, 3), (False, 1, 3), (0, 1, None), (None, 0, 1), ("0", "1"), (0, "1"), (0, 1, "3"),
    ((0, 1), (1, 3)), ((0,), (1,)), [0, 1], [0, 1, 3], "01", "0 1", {0: 1, 1: 3}, None, 0, 1, True,
    (0, [1]), (0, {}), ([0, 1],), (0, 1, ()), (0, 1, (3,)),
)


class IsDrive(unittest.TestCase):
    def test_example(self):
        self.assertIs(is_drive(SQUARE, (0, 1, 0)), False)

    def test_two_places(self):
        for a in range(-1, 5):
            for b in range(-1, 5):
                joined = (min(a, b), max(a, b)) in ((0, 1), (0, 2), (1, 3), (2, 3))
                self.assertIs(is_drive(SQUARE, (a, b)), joined)

    def test_three_places(self):
        turns = {sign[1:] for sign in SQUARE_SIGNS if sign[0] == "turn"}
        for a in range(-1, 5):
            for b in range(-1, 5):
                for c in range(-1, 5):
                    self.assertIs(is_drive(SQUARE, (a, b, c)), (a, b, c) in turns)

    def test_longer(self):
        for drive in ((0, 1, 3, 2), (0, 1, 3, 2, 0), (2, 0, 1, 3), (0, 1, 3, 2, 0, 1), (3, 2, 0, 1, 3, 2, 0, 1, 3)):
            self.assertIs(is_drive(SQUARE, drive), True)
        self.assertIs(is_drive(LOLLIPOP, ROUND), True)
        self.assertIs(is_drive(LOLLIPOP, ROUND[::-1]), True)
        self.assertIs(is_drive(SQUARE, (0, 1, 3, 2) * 2000), True)
        self.assertIs(is_drive(SQUARE, (0, 1, 3, 2) * 2000 + (3,)), False)

    def test_turning_round(self):
        for drive in ((0, 1, 2, 1), (0, 1, 2, 1, 5), (1, 2, 3, 2), (0, 1, 2, 3, 2, 1, 5), (5, 1, 5)):
            self.assertIs(is_drive(LOLLIPOP, drive), False)
        self.assertIs(is_drive(LINE, (0, 1, 0)), False)
        self.assertIs(is_drive(LINE, (0, 1)), True)

    def test_signs_do_not_matter(self):
        town = put(SQUARE, (2,), (("shut", 0, 1), ("turn", 0, 2, 3)))
        with self.assertRaises(InvalidTown):
            is_drive(town, (0, 1))
        town = put(SQUARE, (2,), (("shut", 0, 1),))
        for drive in ((0, 1), (0, 1, 3), (2, 0, 1)):
            self.assertIs(is_drive(town, drive), True)
        self.assertIs(is_drive(LOLLIPOP, (0, 1, 5)), True)

    def test_streets_of_other_towns(self):
        self.assertIs(is_drive(GRID, (0, 4, 8)), True)
        self.assertIs(is_drive(GRID, (0, 1, 4, 0)), True)
        self.assertIs(is_drive(GRID, (0, 1, 3)), False)
        self.assertIs(is_drive(LINE, (0, 2)), False)
        # A place without streets.
        self.assertIs(is_drive((3, ((0, 2, 1),), (), (0, 2), (), ()), (0, 1)), False)

    def test_wrong(self):
        for value in (*WRONG, *NO_DRIVES):
            self.assertIs(is_drive(SQUARE, value), False, value)
        for value in spoiled(ROUND):
            self.assertIs(is_drive(LOLLIPOP, value), False, value)

    def test_defined_in_its_file(self):
        for function in (is_drive, drive_length, bars, is_free):
            self.assertEqual(function.__module__, "quietstreets.drives")


class DriveLength(unittest.TestCase):
    def test_example(self):
        self.assertEqual(drive_length(SQUARE, (0, 2, 3)), 4)

    def test_one_street(self):
        for a, b, length in GRID[1]:
            self.assertEqual(drive_length(GRID, (a, b)), length)
            self.assertEqual(drive_length(GRID, (b, a)), length)
        self.assertEqual(drive_length(LINE, (1, 0)), 7)

    def test_several_streets(self):
        self.assertEqual(drive_length(SQUARE, (0, 1, 3)), 2)
        self.assertEqual(drive_length(SQUARE, (0, 1, 3, 2)), 4)
        self.assertEqual(drive_length(GRID, (0, 1, 2, 5, 8, 7, 6, 3, 0)), 1 + 4 + 99 + 12 + 1 + 13 + 1 + 2)

    def test_streets_count_as_often_as_gone_through(self):
        self.assertEqual(drive_length(LOLLIPOP, ROUND), 1 + 2 + 4 + 6 + 5 + 2 + 3)
        self.assertEqual(drive_length(SQUARE, (0, 1, 3, 2, 0, 1)), 7)
        self.assertEqual(drive_length(SQUARE, (0, 1, 3, 2, 0, 1, 3, 2, 0)), 12)
        self.assertEqual(drive_length(SQUARE, (0, 1, 3, 2) * 2000 + (0,)), 12000)

    def test_lengths_1_and_99(self):
        town = (3, ((0, 1, 1), (0, 2, 99), (1, 2, 99)), (), (0, 2), (), ())
        self.assertEqual(drive_length(town, (0, 1)), 1)
        self.assertEqual(drive_length(town, (0, 2)), 99)
        self.assertEqual(drive_length(town, (0, 1, 2)), 100)
        self.assertEqual(drive_length(town, (2, 0, 1, 2)), 199)

    def test_barred_drives_have_a_length(self):
        self.assertEqual(drive_length(LOLLIPOP, (0, 1, 5)), 4)
        self.assertEqual(drive_length(GRID, (4, 7)), 10)

    def test_an_integer(self):
        self.assertIs(type(drive_length(SQUARE, (0, 1))), int)

    def test_invalid_drive(self):
        for value in (*WRONG, *NO_DRIVES):
            with self.subTest(value=value), self.assertRaises(InvalidDrive):
                drive_length(SQUARE, value)


class Bars(unittest.TestCase):
    def check(self, town, sign, barred, free):
        for drive in barred:
            with self.subTest(sign=sign, drive=drive):
                self.assertIs(bars(town, sign, drive), True)
        for drive in free:
            with self.subTest(sign=sign, drive=drive):
                self.assertIs(bars(town, sign, drive), False)

    def test_example(self):
        self.assertIs(bars(SQUARE, ("turn", 0, 1, 3), (0, 1, 3)), True)

    def test_way(self):
        self.check(
            SQUARE, ("way", 1, 3),
            [(1, 3), (0, 1, 3), (1, 3, 2), (0, 1, 3, 2), (2, 0, 1, 3), (3, 2, 0, 1, 3)],
            [(3, 1), (3, 1, 0), (2, 3, 1), (0, 1), (0, 2, 3), (3, 2, 0, 1), (1, 0, 2, 3, 1)],
        )
        self.check(SQUARE, ("way", 3, 1), [(3, 1), (2, 3, 1, 0)], [(1, 3), (0, 1, 3, 2)])

    def test_shut(self):
        self.check(
            SQUARE, ("shut", 1, 3),
            [(1, 3), (3, 1), (0, 1, 3), (3, 1, 0), (2, 3, 1), (2, 0, 1, 3), (0, 2, 3, 1)],
            [(0, 1), (1, 0), (1, 0, 2, 3), (3, 2, 0, 1), (2, 3), (0, 2)],
        )

    def test_turn(self):
        self.check(
            SQUARE, ("turn", 0, 1, 3),
            [(0, 1, 3), (0, 1, 3, 2), (2, 0, 1, 3), (3, 2, 0, 1, 3), (2, 0, 1, 3, 2)],
            [(3, 1, 0), (0, 1), (1, 3), (1, 3, 2), (2, 0, 1), (1, 3, 2, 0, 1), (2, 3, 1, 0), (3, 1, 0, 2)],
        )

    def test_turn_bars_only_those_who_come_that_way(self):
        # To the place 2 from 1, 3 and 4, and on to 3.
        self.check(
            LOLLIPOP, ("turn", 1, 2, 3),
            [(1, 2, 3), (0, 1, 2, 3), ROUND],
            [(4, 2, 3), (2, 3), (1, 2, 4, 3), (3, 2, 1), (1, 2, 4), (1, 2, 4, 3, 2, 1)],
        )

    def test_places_of_a_turn_not_one_after_the_other(self):
        self.check(GRID, ("turn", 0, 1, 4), [(0, 1, 4), (3, 0, 1, 4)], [(0, 1, 2, 5, 4), (4, 0, 1, 2), (2, 1, 4, 0)])

    def test_at_the_beginning_in_the_middle_and_at_the_end(self):
        drive = (0, 3, 6, 7, 8, 5)
        for before, behind in zip(drive, drive[1:]):
            shut = ("shut", min(before, behind), max(before, behind))
            self.check(GRID, ("way", before, behind), [drive], [drive[::-1]])
            self.check(GRID, shut, [drive, drive[::-1]], [])
        for at in range(4):
            self.check(GRID, ("turn",) + drive[at:at + 3], [drive], [drive[::-1], drive[:at + 2], drive[at + 1:]])

    def test_all_signs_of_the_square(self):
        drive = (3, 2, 0, 1, 3)
        barring = [sign for sign in SQUARE_SIGNS if bars(SQUARE, sign, drive)]
        self.assertEqual(barring, [
            ("shut", 0, 1), ("shut", 0, 2), ("shut", 1, 3), ("shut", 2, 3),
            ("turn", 0, 1, 3), ("turn", 2, 0, 1), ("turn", 3, 2, 0),
            ("way", 0, 1), ("way", 1, 3), ("way", 2, 0), ("way", 3, 2),
        ])
        barring = [sign for sign in SQUARE_SIGNS if bars(SQUARE, sign, (0, 1))]
        self.assertEqual(barring, [("shut", 0, 1), ("way", 0, 1)])

    def test_through_a_street_more_than_once(self):
        self.check(LOLLIPOP, ("way", 1, 2), [ROUND, ROUND[::-1]], [])
        self.check(LOLLIPOP, ("way", 2, 1), [ROUND, ROUND[::-1]], [])
        self.check(LOLLIPOP, ("turn", 2, 1, 5), [ROUND], [ROUND[::-1]])

    def test_standing_signs_too(self):
        self.check(LOLLIPOP, ("turn", 0, 1, 5), [(0, 1, 5)], [ROUND, (5, 1, 0)])
        self.check(GRID, ("shut", 4, 7), [(4, 7), (7, 4)], [(0, 1)])

    def test_other_standing_signs_do_not_matter(self):
        self.check(LOLLIPOP, ("way", 2, 3), [(2, 3)], [(0, 1, 5)])
        self.check(GRID, ("way", 0, 3), [(0, 3)], [(4, 7), (0, 1, 2)])

    def test_invalid_sign(self):
        for sign in (
            *WRONG, True, 0, -1, (), ("way",), ("way", 0), ("way", 0, 1, 3), ("way", 0, 3), ("way", 0, 0), ("way", 0, 4),
            ("way", -1, 0), ("shut", 1, 0), ("shut", 0, 3), ("shut", 0), ("shut", 0, 1, 3), ("turn", 0, 1),
            ("turn", 0, 1, 0), ("turn", 0, 1, 2), ("turn", 0, 3, 1), ("turn", 0, 1, 3, 2), ("Way", 0, 1),
            ("", 0, 1), (0, 1), (0, 1, 3), (("shut", 0, 1),), ["way", 0, 1], ("way", True, 0), ("way", False, 1),
            ("shut", False, True), ("shut", 0, True), ("turn", 0, True, 3), ("turn", False, 1, 3), "way 0 1",
            ("way", "0", "1"), ("way", (0,), 1), ("way", [0], 1), ("way", None, 1), (None, 0, 1), (["way"], 0, 1),
        ):
            with self.subTest(sign=sign), self.assertRaises(InvalidSign):
                bars(SQUARE, sign, (0, 1, 3))
        for sign in (("shut", 0, 1), ("turn", 0, 1, 3), ("way", 1, 0)):
            for value in spoiled(sign):
                with self.subTest(sign=value), self.assertRaises(InvalidSign):
                    bars(SQUARE, value, (0, 1, 3))

    def test_signs_of_another_town(self):
        for sign in (("way", 0, 4), ("shut", 7, 8), ("turn", 0, 4, 8)):
            self.assertIs(bars(GRID, sign, (0, 1)), False)
            with self.assertRaises(InvalidSign):
                bars(SQUARE, sign, (0, 1))

    def test_invalid_drive(self):
        for value in (*WRONG, *NO_DRIVES):
            for sign in (("shut", 0, 1), ("turn", 0, 1, 3), ("way", 3, 2)):
                with self.subTest(value=value), self.assertRaises(InvalidDrive):
                    bars(SQUARE, sign, value)


class IsFree(unittest.TestCase):
    def test_example(self):
        self.assertIs(is_free(SQUARE, (("way", 1, 0),), (0, 1, 3)), True)

    def test_without_any_signs(self):
        for drive in ((0, 1), (0, 1, 3), (3, 2, 0, 1, 3), (0, 1, 3, 2) * 9):
            self.assertIs(is_free(SQUARE, (), drive), True)

    def test_one_sign(self):
        for drive in ((0, 1), (1, 0), (0, 1, 3), (2, 3, 1, 0), (3, 2, 0, 1, 3)):
            for sign in SQUARE_SIGNS:
                self.assertIs(is_free(SQUARE, (sign,), drive), not bars(SQUARE, sign, drive))

    def test_any_of_several_signs(self):
        free = (("turn", 0, 2, 3), ("way", 1, 0), ("way", 3, 1))
        self.assertIs(is_free(SQUARE, free, (0, 1, 3)), True)
        for sign in (("shut", 0, 1), ("shut", 1, 3), ("turn", 0, 1, 3), ("way", 0, 1), ("way", 1, 3)):
            self.assertIs(is_free(SQUARE, tuple(sorted(free + (sign,))), (0, 1, 3)), False)

    def test_twelve_signs(self):
        self.assertIs(is_free(SQUARE, SQUARE_SIGNS[8:], (0, 1, 3)), False)
        self.assertIs(is_free(SQUARE, SQUARE_SIGNS[4:16], (0, 1)), False)
        self.assertIs(is_free(SQUARE, SQUARE_SIGNS[4:16], (2, 0)), True)
        self.assertIs(is_free(SQUARE, SQUARE_SIGNS[1:12] + SQUARE_SIGNS[13:14], (0, 1)), True)

    def test_standing_signs(self):
        self.assertIs(is_free(LOLLIPOP, (), (0, 1, 5)), False)
        self.assertIs(is_free(LOLLIPOP, (), (5, 1, 0)), False)
        self.assertIs(is_free(LOLLIPOP, (), ROUND), True)
        self.assertIs(is_free(LOLLIPOP, (), (0, 1)), True)
        self.assertIs(is_free(LOLLIPOP, (), (1, 5)), True)
        self.assertIs(is_free(GRID, (), (4, 7)), False)
        self.assertIs(is_free(GRID, (), (8, 7, 4)), False)
        self.assertIs(is_free(GRID, (), (0, 1)), False)
        self.assertIs(is_free(GRID, (), (1, 0)), True)
        self.assertIs(is_free(GRID, (), (3, 4, 1, 0)), False)
        self.assertIs(is_free(GRID, (), (5, 4)), False)
        self.assertIs(is_free(GRID, (), (4, 5)), True)

    def test_standing_and_further_signs(self):
        self.assertIs(is_free(LOLLIPOP, (("way", 3, 4),), ROUND), False)
        self.assertIs(is_free(LOLLIPOP, (("way", 4, 3),), ROUND), True)
        self.assertIs(is_free(LOLLIPOP, (("way", 4, 3),), (0, 1, 5)), False)
        self.assertIs(is_free(LOLLIPOP, (("way", 4, 3),), ROUND[::-1]), False)

    def test_drives_that_do_not_begin_or_end_at_gates(self):
        self.assertIs(is_free(SQUARE, (("shut", 0, 2),), (1, 3, 2)), True)
        self.assertIs(is_free(SQUARE, (("shut", 2, 3),), (1, 3, 2)), False)
        self.assertIs(is_free(SQUARE, (), (0, 1, 3, 2, 0)), True)

    def test_invalid_signs(self):
        for signs in (
            *WRONG, True, 0, ("shut", 0, 1), [("shut", 0, 1)], (("shut", 0, 3),), (("shut", 1, 0),),
            (("way", 1, 0), ("way", 0, 1)), (("way", 0, 1), ("way", 0, 1)), SQUARE_SIGNS[:13], (["shut", 0, 1],),
        ):
            with self.subTest(signs=signs), self.assertRaises(InvalidSigns):
                is_free(SQUARE, signs, (0, 1, 3))

    def test_standing_signs_are_no_further_ones(self):
        for sign in LOLLIPOP[2]:
            with self.assertRaises(InvalidSigns):
                is_free(LOLLIPOP, (sign,), ROUND)
        with self.assertRaises(InvalidSigns):
            is_free(LOLLIPOP, (("shut", 0, 1), ("turn", 0, 1, 5)), ROUND)

    def test_invalid_drive(self):
        for value in (*WRONG, *NO_DRIVES):
            with self.subTest(value=value), self.assertRaises(InvalidDrive):
                is_free(SQUARE, (("shut", 0, 1),), value)
