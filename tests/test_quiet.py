"""is_quiet, loud_drives and used_streets."""

import unittest

from quietstreets.errors import InvalidSigns, InvalidTown
from quietstreets.quiet import is_quiet, loud_drives, used_streets

from sample_towns import GRID, LINE, LOLLIPOP, SQUARE, SQUARE_SIGNS, WRONG, put

FUNCTIONS = (is_quiet, loud_drives, used_streets)


class Cases(unittest.TestCase):
    def check(self, town, signs, loud, used):
        with self.subTest(town=town, signs=signs):
            self.assertEqual(loud_drives(town, signs), loud)
            self.assertIs(is_quiet(town, signs), not loud)
            self.assertEqual(used_streets(town, signs), used)


class Quiet(Cases):
    def test_examples(self):
        self.assertIs(is_quiet(SQUARE, ()), False)
        self.assertEqual(loud_drives(SQUARE, ()), [(0, 1, 3), (3, 1, 0)])
        self.assertEqual(used_streets(SQUARE, ()), [0, 2])

    def test_defined_in_their_file(self):
        for function in FUNCTIONS:
            self.assertEqual(function.__module__, "quietstreets.quiet")

    def test_further_signs_of_each_kind(self):
        self.check(SQUARE, (("shut", 0, 1),), [], [1, 3])
        self.check(SQUARE, (("way", 0, 1),), [(3, 1, 0)], [0, 1, 2, 3])
        self.check(SQUARE, (("way", 1, 0),), [(0, 1, 3)], [0, 1, 2, 3])
        self.check(SQUARE, (("turn", 0, 1, 3),), [(3, 1, 0)], [0, 1, 2, 3])
        self.check(SQUARE, (("turn", 3, 1, 0),), [(0, 1, 3)], [0, 1, 2, 3])
        self.check(SQUARE, (("shut", 2, 3),), [(0, 1, 3), (3, 1, 0)], [0, 2])

    def test_several_signs(self):
        self.check(SQUARE, (("turn", 0, 1, 3), ("way", 1, 0)), [], [1, 3])
        self.check(SQUARE, (("turn", 0, 1, 3), ("turn", 3, 1, 0)), [], [1, 3])
        self.check(SQUARE, (("turn", 0, 1, 3), ("way", 2, 3)), [(3, 1, 0)], [0, 2])

    def test_standing_signs(self):
        self.check(put(SQUARE, (2,), (("shut", 0, 1),)), (), [], [1, 3])
        self.check(put(SQUARE, (2,), (("turn", 0, 1, 3),)), (), [(3, 1, 0)], [0, 1, 2, 3])
        self.check(put(SQUARE, (2,), (("turn", 0, 1, 3),)), (("way", 1, 0),), [], [1, 3])

    def test_no_free_drive(self):
        self.check(SQUARE, (("shut", 0, 1), ("shut", 0, 2)), [], [])
        self.check(SQUARE, (("shut", 0, 1), ("way", 0, 2)), [], [1, 3])
        self.check(SQUARE, (("turn", 0, 1, 3), ("turn", 0, 2, 3)), [(3, 1, 0)], [0, 2])
        self.check(put(LINE, (5,), (0,)), (("shut", 0, 1),), [], [])
        self.check(put(LINE, (5,), (0,)), (("way", 0, 1),), [(1, 0)], [0])

    def test_each_quiet_street(self):
        drives = {0: [(0, 1, 3), (3, 1, 0)], 1: [], 2: [(0, 1, 3), (3, 1, 0)], 3: []}
        for street, loud in drives.items():
            self.check(put(SQUARE, (5,), (street,)), (), loud, [0, 2])
        self.check(put(SQUARE, (5,), ()), (), [], [0, 2])
        self.check(put(SQUARE, (5,), (1, 3)), (), [], [0, 2])
        self.check(put(SQUARE, (5,), (0, 1, 2, 3)), (), drives[0], [0, 2])
        self.check(put(SQUARE, (5,), (1, 2)), (), drives[0], [0, 2])

    def test_several_best_drives(self):
        # From 1 to 2 there are two; one of them is enough to be loud.
        town = put(SQUARE, (3,), (1, 2))
        self.check(town, (), [(1, 0, 2), (2, 0, 1)], [0, 1, 2, 3])
        self.check(put(town, (5,), (3,)), (), [(1, 3, 2), (2, 3, 1)], [0, 1, 2, 3])
        self.check(put(town, (5,), (0, 3)), (), [(1, 0, 2), (1, 3, 2), (2, 0, 1), (2, 3, 1)], [0, 1, 2, 3])
        self.check(put(town, (5,), ()), (), [], [0, 1, 2, 3])
        self.check(town, (("turn", 1, 0, 2),), [(2, 0, 1)], [0, 1, 2, 3])
        self.check(town, (("shut", 0, 2),), [], [2, 3])

    def test_all_pairs_of_gates(self):
        path = (4, ((0, 1, 1), (1, 2, 1), (2, 3, 1)), (), (0, 1), (), (0, 2))
        self.check(path, (), [(0, 1), (1, 0)], [0])
        self.check(put(path, (3,), (1, 2)), (), [], [1])
        self.check(put(path, (3,), (0, 1, 2)), (), [(0, 1), (0, 1, 2), (1, 0), (2, 1, 0)], [0, 1])
        self.check(
            put(path, (3,), (0, 1, 2, 3)), (),
            [
                (0, 1), (0, 1, 2), (0, 1, 2, 3), (1, 0), (1, 2, 3),
                (2, 1, 0), (2, 3), (3, 2), (3, 2, 1), (3, 2, 1, 0),
            ],
            [0, 1, 2],
        )

    def test_drives_to_and_from_houses_are_not_loud(self):
        # The quiet street is gone through only to and from the house 1.
        town = (4, ((0, 1, 1), (0, 3, 1), (1, 3, 1)), (), (0, 3), (1,), (0, 2))
        self.check(town, (), [], [1])
        self.check(town, (("way", 0, 3),), [(0, 1, 3)], [0, 1, 2])
        self.check(put(town, (4,), ()), (), [], [1])

    def test_streets_gone_through_twice(self):
        drives = [(0, 1, 2, 3, 4, 2, 1, 5), (0, 1, 2, 4, 3, 2, 1, 5), (5, 1, 2, 3, 4, 2, 1, 0), (5, 1, 2, 4, 3, 2, 1, 0)]
        for quiet in ((1, 5), (0,), (1,), (2,), (3,), (4,), (5,)):
            self.check(put(LOLLIPOP, (5,), quiet), (), drives, [0, 1, 2, 3, 4, 5])
        self.check(put(LOLLIPOP, (5,), ()), (), [], [0, 1, 2, 3, 4, 5])

    def test_more_signs_can_make_a_quiet_town_loud(self):
        town = put(SQUARE, (5,), (1,))
        self.check(town, (), [], [0, 2])
        self.check(town, (("way", 0, 1),), [(0, 2, 3)], [0, 1, 2, 3])
        self.check(town, (("shut", 2, 3), ("way", 0, 1)), [], [0, 2])

    def test_grid(self):
        self.assertIs(is_quiet(GRID, ()), False)
        loud = loud_drives(GRID, ())
        self.assertEqual(loud, sorted(set(loud)))
        self.assertIs(is_quiet(put(GRID, (5,), ()), ()), True)
        used = used_streets(GRID, ())
        for street in range(14):
            self.assertIs(is_quiet(put(GRID, (5,), (street,)), ()), street not in used)

    def test_twelve_signs(self):
        for signs in (SQUARE_SIGNS[:12], SQUARE_SIGNS[8:]):
            self.check(SQUARE, signs, [], [])

    def test_new_lists(self):
        for function in (loud_drives, used_streets):
            first = function(SQUARE, ())
            self.assertIs(type(first), list)
            expected = list(first)
            first.clear()
            self.assertEqual(function(SQUARE, ()), expected)

    def test_invalid(self):
        for function in FUNCTIONS:
            for signs in (*WRONG, [], True, 0, (("way", 0, 3),), (("way", 0, 1), ("shut", 0, 1)), SQUARE_SIGNS[:13]):
                self.assertRaises(InvalidSigns, function, SQUARE, signs)
                self.assertRaises(InvalidTown, function, SQUARE[:5], signs)
            # A standing sign is none of the signs for the town.
            self.assertRaises(InvalidSigns, function, put(SQUARE, (2,), (("shut", 0, 1),)), (("shut", 0, 1),))
