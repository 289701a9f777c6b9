"""best_drives and count_best."""

import unittest

from quietstreets.best import best_drives, count_best
from quietstreets.drives import drive_length, is_free
from quietstreets.errors import InvalidPlace, InvalidSigns, InvalidTown
from quietstreets.lengths import least_length

from sample_towns import GRID, LINE, LOLLIPOP, SQUARE, SQUARE_SIGNS, WRONG, put

# Three places between 0 and 4, and three more between 4 and 8, all streets alike.
LAYERS = (
    9,
    tuple((0, b, 1) for b in (1, 2, 3)) + tuple((a, 4, 1) for a in (1, 2, 3))
    + tuple((4, b, 1) for b in (5, 6, 7)) + tuple((a, 8, 1) for a in (5, 6, 7)),
    (),
    (0, 8),
    (),
    (),
)


class Best(unittest.TestCase):
    def check(self, town, signs, start, goal, expected):
        with self.subTest(signs=signs, start=start, goal=goal):
            self.assertEqual(best_drives(town, signs, start, goal), expected)
            self.assertEqual(count_best(town, signs, start, goal), len(expected))

    def test_examples(self):
        self.assertEqual(best_drives(SQUARE, (), 1, 2), [(1, 0, 2), (1, 3, 2)])
        self.assertEqual(count_best(SQUARE, (), 1, 2), 2)

    def test_defined_in_their_file(self):
        self.assertEqual(best_drives.__module__, "quietstreets.best")
        self.assertEqual(count_best.__module__, "quietstreets.best")

    def test_one(self):
        self.check(SQUARE, (), 0, 3, [(0, 1, 3)])
        self.check(SQUARE, (), 3, 0, [(3, 1, 0)])
        self.check(SQUARE, (), 0, 1, [(0, 1)])
        self.check(LINE, (), 1, 0, [(1, 0)])

    def test_two(self):
        self.check(SQUARE, (), 2, 1, [(2, 0, 1), (2, 3, 1)])
        # By way of place 1 it is as short as straight on.
        town = (3, ((0, 1, 2), (0, 2, 5), (1, 2, 3)), (), (0, 2), (), ())
        self.check(town, (), 0, 2, [(0, 1, 2), (0, 2)])
        self.check(put(town, (1, 1), (0, 2, 6)), (), 0, 2, [(0, 1, 2)])
        self.check(put(town, (1, 1), (0, 2, 4)), (), 0, 2, [(0, 2)])

    def test_many(self):
        expected = [(0, a, 4, b, 8) for a in (1, 2, 3) for b in (5, 6, 7)]
        self.check(LAYERS, (), 0, 8, expected)
        self.check(LAYERS, (), 8, 0, [(8, b, 4, a, 0) for b in (5, 6, 7) for a in (1, 2, 3)])
        self.check(LAYERS, (("shut", 0, 2),), 0, 8, [drive for drive in expected if drive[1] != 2])
        left = [drive for drive in expected if drive[1:4] != (1, 4, 6)]
        self.check(LAYERS, (("turn", 1, 4, 6),), 0, 8, left)
        self.check(LAYERS, (("turn", 1, 4, 6), ("way", 7, 8)), 0, 8, [drive for drive in left if drive[3] != 7])
        self.check(LAYERS, (("way", 8, 7),), 0, 8, expected)

    def test_none(self):
        self.check(LINE, (("shut", 0, 1),), 0, 1, [])
        self.check(LINE, (("way", 0, 1),), 0, 1, [])
        self.check(LINE, (("way", 0, 1),), 1, 0, [(1, 0)])
        self.check((4, ((0, 1, 1), (2, 3, 1)), (), (0, 1), (), ()), (), 0, 2, [])
        self.check((3, ((0, 1, 1),), (), (0, 1), (), ()), (), 0, 2, [])
        self.check((3, ((0, 1, 1),), (), (0, 1), (), ()), (), 2, 0, [])

    def test_further_signs_of_each_kind(self):
        self.check(SQUARE, (("shut", 0, 1),), 0, 3, [(0, 2, 3)])
        self.check(SQUARE, (("shut", 0, 1),), 3, 0, [(3, 2, 0)])
        self.check(SQUARE, (("way", 1, 0),), 0, 3, [(0, 1, 3)])
        self.check(SQUARE, (("way", 1, 0),), 3, 0, [(3, 2, 0)])
        self.check(SQUARE, (("turn", 0, 1, 3),), 0, 3, [(0, 2, 3)])
        self.check(SQUARE, (("turn", 0, 1, 3),), 3, 0, [(3, 1, 0)])
        self.check(SQUARE, (("turn", 0, 1, 3),), 1, 2, [(1, 0, 2), (1, 3, 2)])
        self.check(SQUARE, (("turn", 1, 0, 2),), 1, 2, [(1, 3, 2)])

    def test_standing_signs(self):
        town = put(SQUARE, (2,), (("turn", 0, 1, 3),))
        self.check(town, (), 0, 3, [(0, 2, 3)])
        self.check(town, (), 3, 0, [(3, 1, 0)])
        self.check(town, (("shut", 1, 3),), 3, 0, [(3, 2, 0)])
        self.check(town, (("shut", 0, 2),), 0, 3, [])

    def test_places_and_streets_again(self):
        self.check(LOLLIPOP, (), 0, 5, [(0, 1, 2, 3, 4, 2, 1, 5), (0, 1, 2, 4, 3, 2, 1, 5)])
        self.check(LOLLIPOP, (), 5, 0, [(5, 1, 2, 3, 4, 2, 1, 0), (5, 1, 2, 4, 3, 2, 1, 0)])
        self.check(LOLLIPOP, (("way", 3, 4),), 0, 5, [(0, 1, 2, 4, 3, 2, 1, 5)])

    def test_a_place_again_but_no_street(self):
        # The turn 0-1-4 is barred, so it goes round by 2 and 3 and comes to 1 again.
        streets = ((0, 1, 1), (1, 2, 1), (1, 3, 1), (1, 4, 1), (2, 3, 1))
        town = (5, streets, (("turn", 0, 1, 4), ("turn", 4, 1, 0)), (0, 4), (), ())
        self.check(town, (), 0, 4, [(0, 1, 2, 3, 1, 4), (0, 1, 3, 2, 1, 4)])
        self.check(town, (("turn", 2, 1, 4),), 0, 4, [(0, 1, 2, 3, 1, 4)])
        self.check(town, (("turn", 2, 1, 4), ("way", 1, 2)), 0, 4, [])

    def test_houses_gates_and_quiet_streets_do_not_matter(self):
        for part, value in ((4, (1, 2)), (5, ()), (5, (0, 1, 2, 3)), (3, (1, 2))):
            self.assertEqual(best_drives(put(SQUARE, (part,), value), (), 1, 2), [(1, 0, 2), (1, 3, 2)])

    def test_grid(self):
        self.check(GRID, (), 0, 8, [(0, 4, 8)])
        self.check(GRID, (), 6, 2, [(6, 3, 0, 4, 1, 2)])
        self.check(GRID, (("turn", 0, 4, 8),), 0, 8, [(0, 3, 6, 7, 8)])

    def test_they_are_free_and_of_the_least_length(self):
        for town in (SQUARE, LOLLIPOP, GRID, LAYERS):
            for start in range(town[0]):
                for goal in range(town[0]):
                    if start != goal:
                        drives = best_drives(town, (), start, goal)
                        self.assertEqual(drives, sorted(set(drives)))
                        for drive in drives:
                            self.assertEqual((drive[0], drive[-1]), (start, goal))
                            self.assertIs(is_free(town, (), drive), True)
                            self.assertEqual(drive_length(town, drive), least_length(town, (), start, goal))

    def test_a_new_list_of_tuples(self):
        first = best_drives(SQUARE, (), 1, 2)
        self.assertIs(type(first), list)
        self.assertEqual({type(drive) for drive in first}, {tuple})
        first.pop()
        self.assertEqual(best_drives(SQUARE, (), 1, 2), [(1, 0, 2), (1, 3, 2)])
        self.assertIs(type(count_best(SQUARE, (), 1, 2)), int)

    def test_invalid(self):
        for function in (best_drives, count_best):
            for place in (-1, 4, True, False, None, "1", (1,), *WRONG):
                self.assertRaises(InvalidPlace, function, SQUARE, (), place, 3)
                self.assertRaises(InvalidPlace, function, SQUARE, (), 0, place)
            for place in range(4):
                self.assertRaises(InvalidPlace, function, SQUARE, (), place, place)
            for signs in (None, [], ("way", 0, 1), (("way", 0, 3),), SQUARE_SIGNS[:13]):
                self.assertRaises(InvalidSigns, function, SQUARE, signs, 1, 1)
            self.assertRaises(InvalidTown, function, SQUARE[:5], None, 1, 1)
            self.assertEqual(function(SQUARE, SQUARE_SIGNS[:12], 0, 3), function(LINE, (("shut", 0, 1),), 0, 1))


class MoreSigns(unittest.TestCase):
    def test_best_drives_under_more_signs(self):
        for sign in SQUARE_SIGNS:
            for other in SQUARE_SIGNS:
                if sign < other:
                    self.check((sign,), (sign, other))

    def check(self, fewer, more):
        for start, goal in ((0, 3), (3, 0), (1, 2), (2, 1), (0, 1)):
            least = least_length(SQUARE, more, start, goal)
            drives = best_drives(SQUARE, fewer, start, goal)
            if least is not None:
                self.assertGreaterEqual(least, least_length(SQUARE, fewer, start, goal))
            left = [drive for drive in drives if is_free(SQUARE, more, drive)]
            if left:
                self.assertEqual(best_drives(SQUARE, more, start, goal), left)
