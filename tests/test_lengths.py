"""least_length and table: the least lengths of free drives."""

import unittest

from quietstreets.drives import drive_length, is_free
from quietstreets.errors import InvalidPlace, InvalidSigns, InvalidTown
from quietstreets.lengths import is_bound, least_length, table

from sample_towns import GRID, LINE, LOLLIPOP, SQUARE, WRONG, put, wrong_items

# Two pairs of places that no street joins.
PARTS = (5, ((0, 1, 2), (2, 3, 4)), (), (0, 1), (), ())


class LeastLength(unittest.TestCase):
    def test_example(self):
        self.assertEqual(least_length(SQUARE, (), 0, 3), 2)

    def test_defined_in_its_file(self):
        for function in (least_length, table, is_bound):
            self.assertEqual(function.__module__, "quietstreets.lengths")

    def test_all_pairs_of_the_square(self):
        expected = {(0, 1): 1, (0, 2): 2, (0, 3): 2, (1, 2): 3, (1, 3): 1, (2, 3): 2}
        for (a, b), length in expected.items():
            self.assertEqual(least_length(SQUARE, (), a, b), length)
            self.assertEqual(least_length(SQUARE, (), b, a), length)

    def test_one_street(self):
        self.assertEqual(least_length(LINE, (), 0, 1), 7)
        self.assertEqual(least_length(LINE, (), 1, 0), 7)

    def test_further_signs_of_each_kind(self):
        self.assertEqual(least_length(SQUARE, (("shut", 0, 1),), 0, 3), 4)
        self.assertEqual(least_length(SQUARE, (("shut", 0, 1),), 3, 0), 4)
        self.assertEqual(least_length(SQUARE, (("way", 0, 1),), 0, 3), 4)
        self.assertEqual(least_length(SQUARE, (("way", 0, 1),), 3, 0), 2)
        self.assertEqual(least_length(SQUARE, (("turn", 0, 1, 3),), 0, 3), 4)
        self.assertEqual(least_length(SQUARE, (("turn", 0, 1, 3),), 3, 0), 2)
        # Place 1 can still be come to, and 3 from there.
        self.assertEqual(least_length(SQUARE, (("turn", 0, 1, 3),), 0, 1), 1)
        self.assertEqual(least_length(SQUARE, (("turn", 0, 1, 3),), 1, 3), 1)

    def test_several_signs(self):
        signs = (("turn", 0, 1, 3), ("way", 0, 2))
        self.assertIsNone(least_length(SQUARE, signs, 0, 3))
        self.assertEqual(least_length(SQUARE, signs, 0, 1), 1)
        self.assertEqual(least_length(SQUARE, signs, 2, 1), 3)
        self.assertEqual(least_length(SQUARE, (("shut", 0, 2), ("shut", 1, 3)), 0, 1), 1)

    def test_standing_signs(self):
        town = put(SQUARE, (2,), (("shut", 0, 1),))
        self.assertEqual(least_length(town, (), 0, 3), 4)
        self.assertEqual(least_length(town, (), 0, 1), 5)
        self.assertEqual(least_length(town, (("way", 2, 3),), 3, 0), 4)
        self.assertIsNone(least_length(town, (("way", 2, 3),), 0, 3))

    def test_no_free_drive(self):
        self.assertIsNone(least_length(LINE, (("shut", 0, 1),), 0, 1))
        self.assertIsNone(least_length(LINE, (("way", 0, 1),), 0, 1))
        self.assertEqual(least_length(LINE, (("way", 0, 1),), 1, 0), 7)
        for start, goal in ((0, 2), (0, 3), (0, 4), (4, 0), (2, 1), (3, 4)):
            self.assertIsNone(least_length(PARTS, (), start, goal))
        self.assertEqual(least_length(PARTS, (), 2, 3), 4)

    def test_going_round(self):
        self.assertEqual(least_length(LOLLIPOP, (), 0, 5), 1 + 2 + 4 + 6 + 5 + 2 + 3)
        self.assertEqual(least_length(LOLLIPOP, (), 5, 0), 23)
        self.assertEqual(least_length(LOLLIPOP, (), 1, 5), 3)
        self.assertIsNone(least_length(LOLLIPOP, (("shut", 3, 4),), 0, 5))

    def test_the_same_place_twice(self):
        # 0, 1, 2, 3, 1, 4, or round the other way: the first time at place 1 nobody may go on to 4.
        streets = ((0, 1, 1), (1, 2, 1), (1, 3, 1), (1, 4, 1), (2, 3, 1))
        town = (5, streets, (("turn", 0, 1, 4), ("turn", 4, 1, 0)), (0, 4), (), ())
        self.assertEqual(least_length(town, (), 0, 4), 5)
        self.assertEqual(least_length(town, (("turn", 3, 1, 4),), 0, 4), 5)
        self.assertIsNone(least_length(town, (("turn", 2, 1, 4), ("turn", 3, 1, 4)), 0, 4))

    def test_more_streets_may_be_shorter(self):
        town = (4, ((0, 1, 99), (0, 2, 33), (1, 3, 32), (2, 3, 33)), (), (0, 1), (), ())
        self.assertEqual(least_length(town, (), 0, 1), 98)
        self.assertEqual(least_length(town, (("way", 2, 3),), 0, 1), 99)
        self.assertEqual(least_length(put(town, (1, 2), (1, 3, 33)), (), 0, 1), 99)
        self.assertEqual(least_length(put(town, (1, 2), (1, 3, 34)), (), 0, 1), 99)

    def test_many_streets_at_the_start(self):
        # The shorter ones come late in the order of the places.
        streets = (
            (0, 1, 20), (0, 2, 50), (0, 3, 50), (0, 4, 2), (0, 5, 20), (0, 6, 1),
            (1, 4, 9), (1, 5, 1), (2, 3, 2), (2, 5, 2), (3, 4, 5),
        )
        town = (7, streets, (), (0, 6), (), ())
        for goal, length in ((1, 11), (2, 9), (3, 7), (4, 2), (5, 11), (6, 1)):
            self.assertEqual(least_length(town, (), 0, goal), length)

    def test_grid(self):
        self.assertEqual(least_length(GRID, (), 0, 8), 3 + 11)
        self.assertEqual(least_length(GRID, (), 8, 0), 11 + 3)
        self.assertEqual(least_length(GRID, (), 0, 6), 2 + 1)
        self.assertEqual(least_length(GRID, (("shut", 4, 8),), 0, 8), 2 + 1 + 13 + 1)
        # From 1 to 0 and on to 3 is barred, and so is 0 to 1.
        self.assertEqual(least_length(GRID, (), 0, 1), 3 + 5)
        self.assertEqual(least_length(GRID, (), 1, 3), 5 + 3 + 2)
        self.assertEqual(least_length(GRID, (), 4, 1), 5)

    def test_an_integer(self):
        self.assertIs(type(least_length(SQUARE, (), 0, 3)), int)

    def test_invalid_places(self):
        for place in (-1, 4, 9, 10 ** 30, True, False, "0", None, (0,), [0], *WRONG):
            for good in (0, 3):
                with self.subTest(place=place):
                    self.assertRaises(InvalidPlace, least_length, SQUARE, (), place, good)
                    self.assertRaises(InvalidPlace, least_length, SQUARE, (), good, place)
            self.assertRaises(InvalidPlace, least_length, SQUARE, (), place, place)

    def test_start_and_goal_the_same(self):
        for place in range(4):
            self.assertRaises(InvalidPlace, least_length, SQUARE, (), place, place)

    def test_invalid_signs_come_before_invalid_places(self):
        for signs in ([], (("way", 0, 3),), (("way", 0, 1), ("shut", 0, 1)), None):
            self.assertRaises(InvalidSigns, least_length, SQUARE, signs, 0, 3)
            self.assertRaises(InvalidSigns, least_length, SQUARE, signs, 0, 0)
            self.assertRaises(InvalidTown, least_length, None, signs, 0, 0)


class Table(unittest.TestCase):
    def test_example(self):
        expected = [(0, 1, 1), (0, 2, 2), (1, 0, 6), (2, 3, 4), (3, 1, 5)]
        self.assertEqual(table(SQUARE, (("turn", 0, 1, 3),), 0), expected)

    def test_without_signs(self):
        expected = [(0, 1, 1), (0, 2, 2), (1, 0, 6), (1, 3, 2), (2, 0, 6), (2, 3, 4), (3, 1, 5), (3, 2, 4)]
        self.assertEqual(table(SQUARE, (), 0), expected)

    def test_nobody_turns_round(self):
        self.assertEqual(table(LINE, (), 0), [(0, 1, 7)])
        self.assertEqual(table(LINE, (), 1), [(1, 0, 7)])

    def test_back_at_the_start(self):
        # No free drive comes back to 0 against the ring's one direction.
        signs = (("way", 1, 0), ("way", 1, 3))
        self.assertEqual(table(SQUARE, signs, 0), [(0, 1, 1), (0, 2, 2), (2, 3, 4), (3, 1, 5)])
        self.assertEqual(table(SQUARE, (("way", 1, 3),), 0), [(0, 1, 1), (0, 2, 2), (1, 0, 6), (2, 3, 4), (3, 1, 5)])

    def test_each_kind_of_sign(self):
        self.assertEqual(table(SQUARE, (("shut", 0, 1),), 0), [(0, 2, 2), (2, 3, 4), (3, 1, 5)])
        self.assertEqual(table(SQUARE, (("way", 0, 1),), 0), [(0, 2, 2), (1, 0, 6), (2, 3, 4), (3, 1, 5)])
        town = put(SQUARE, (2,), (("shut", 0, 1),))
        self.assertEqual(table(town, (), 0), [(0, 2, 2), (2, 3, 4), (3, 1, 5)])
        self.assertEqual(table(town, (("turn", 2, 3, 1),), 0), [(0, 2, 2), (2, 3, 4)])

    def test_empty(self):
        self.assertEqual(table(PARTS, (), 4), [])
        self.assertEqual(table(LINE, (("shut", 0, 1),), 0), [])
        self.assertEqual(table(LINE, (("way", 1, 0),), 1), [])

    def test_a_street_in_both_directions(self):
        self.assertEqual(table(LOLLIPOP, (), 0), [
            (0, 1, 1), (1, 0, 21), (1, 2, 3), (1, 5, 23), (2, 1, 20), (2, 3, 7),
            (2, 4, 8), (3, 2, 18), (3, 4, 13), (4, 2, 18), (4, 3, 14),
        ])

    def test_least_lengths_are_in_the_table(self):
        for town in (SQUARE, GRID, LOLLIPOP, PARTS):
            for start in range(town[0]):
                found = table(town, (), start)
                for goal in range(town[0]):
                    if goal != start:
                        least = min((length for _, b, length in found if b == goal), default=None)
                        self.assertEqual(least_length(town, (), start, goal), least)

    def test_a_new_list(self):
        first = table(SQUARE, (), 0)
        first.append(None)
        first[0] = 0
        self.assertEqual(table(SQUARE, (), 0)[0], (0, 1, 1))
        self.assertNotIn(None, table(SQUARE, (), 0))

    def test_kinds(self):
        found = table(SQUARE, (), 0)
        self.assertIs(type(found), list)
        self.assertEqual({type(row) for row in found}, {tuple})

    def test_invalid_places(self):
        for place in (-1, 4, 9, True, False, None, "0", (0,), *WRONG):
            self.assertRaises(InvalidPlace, table, SQUARE, (), place)
            self.assertRaises(InvalidPlace, is_bound, SQUARE, (), place, [])


class IsBound(unittest.TestCase):
    SIGNS = (("shut", 0, 1),)
    GOOD = [(0, 2, 2), (2, 3, 4), (3, 1, 0)]

    def yes(self, *values, town=SQUARE, signs=SIGNS, start=0):
        for value in values:
            with self.subTest(value=value):
                self.assertIs(is_bound(town, signs, start, value), True)

    def no(self, *values, town=SQUARE, signs=SIGNS, start=0):
        for value in values:
            with self.subTest(value=value):
                self.assertIs(is_bound(town, signs, start, value), False)

    def test_example(self):
        self.yes(self.GOOD)

    def test_the_table_itself(self):
        for town in (SQUARE, LINE, LOLLIPOP, GRID, PARTS):
            for start in range(town[0]):
                self.yes(table(town, (), start), town=town, signs=(), start=start)
        for signs in (self.SIGNS, (("turn", 0, 1, 3),), (("way", 0, 1), ("way", 0, 2)), (("shut", 0, 1), ("shut", 0, 2))):
            for start in range(4):
                self.yes(table(SQUARE, signs, start), signs=signs, start=start)

    def test_the_table_of_other_signs(self):
        # More signs, fewer drives: a bound of all drives is one of the free ones, if what is barred is left.
        self.yes(table(SQUARE, (), 0))
        self.no(table(SQUARE, self.SIGNS, 0), signs=())
        self.no(table(SQUARE, (("turn", 0, 1, 3),), 0), signs=())

    def test_a_number_raised(self):
        for town in (SQUARE, LOLLIPOP, GRID):
            for start in range(town[0]):
                least = table(town, (), start)
                for at, (a, b, length) in enumerate(least):
                    self.no([*least[:at], (a, b, length + 1), *least[at + 1:]], town=town, signs=(), start=start)

    def test_all_numbers_lowered(self):
        least = table(GRID, (), 0)
        for by in (1, 5, 1000):
            self.yes([(a, b, length - by) for a, b, length in least], town=GRID, signs=())

    def test_one_number_lowered(self):
        # Nothing is behind (3, 1), so its number may be any lower one; behind (2, 3) it is (3, 1).
        self.yes([(0, 2, 2), (2, 3, 4), (3, 1, 5)], [(0, 2, 2), (2, 3, 4), (3, 1, -99)], [(0, 2, 2), (2, 3, 4), (3, 1, 4)])
        self.no([(0, 2, 2), (2, 3, 4), (3, 1, 6)])
        self.no([(0, 2, 2), (2, 3, 3), (3, 1, 5)], [(0, 2, 1), (2, 3, 4), (3, 1, 5)])
        self.yes([(0, 2, 2), (2, 3, 3), (3, 1, 4)], [(0, 2, 1), (2, 3, 3), (3, 1, 4)])

    def test_first_directions(self):
        self.yes([(0, 1, 7)], [(0, 1, 6)], [(0, 1, 0)], [(0, 1, -1)], [(0, 1, -10 ** 30)], town=LINE, signs=())
        self.no([(0, 1, 8)], [], [(1, 0, 7)], town=LINE, signs=())
        self.yes([], town=LINE, signs=(("shut", 0, 1),))
        self.yes([], [(0, 1, 8)], [(0, 1, 10 ** 30)], town=LINE, signs=(("way", 0, 1),))

    def test_negative_numbers(self):
        self.yes([(0, 2, -2), (2, 3, 0), (3, 1, 1)], [(0, 2, -3), (2, 3, -3), (3, 1, -3)])
        self.no([(0, 2, -3), (2, 3, 0), (3, 1, 1)])

    def test_an_entry_cut(self):
        for at in range(3):
            self.no(self.GOOD[:at] + self.GOOD[at + 1:])
            self.no([*self.GOOD[:at], self.GOOD[at][:2], *self.GOOD[at + 1:]])
            self.no([*self.GOOD[:at], self.GOOD[at] + (0,), *self.GOOD[at + 1:]])
            self.no([*self.GOOD[:at], (), *self.GOOD[at + 1:]])

    def test_an_entry_twice(self):
        for at in range(3):
            self.no(self.GOOD[:at + 1] + self.GOOD[at:])
            a, b, number = self.GOOD[at]
            self.no([*self.GOOD[:at], (a, b, number - 1), *self.GOOD[at:]])
            self.no([*self.GOOD[:at + 1], (a, b, number + 1), *self.GOOD[at + 1:]])

    def test_out_of_order(self):
        self.no(self.GOOD[::-1], [self.GOOD[1], self.GOOD[0], self.GOOD[2]], [self.GOOD[0], self.GOOD[2], self.GOOD[1]])

    def test_further_directions(self):
        # (0, 1) and (1, 0) are barred themselves; what is behind them must be there all the same.
        self.yes([(0, 2, 2), (1, 0, 99), (2, 3, 4), (3, 1, 0)])
        self.no([(0, 2, 2), (1, 0, -1), (2, 3, 4), (3, 1, 0)])
        self.no([(0, 1, 99), (0, 2, 2), (2, 3, 4), (3, 1, 0)])
        self.yes([(0, 1, 99), (0, 2, 2), (1, 3, 100), (2, 0, 104), (2, 3, 4), (3, 1, 0), (3, 2, 102)])
        # No drive from 0 ends by (1, 3), but then (3, 2) must be there, and (2, 0).
        self.no([(0, 2, 2), (1, 3, 9), (2, 3, 4), (3, 1, 0)])
        self.no([(0, 2, 2), (1, 3, 9), (2, 3, 4), (3, 1, 0), (3, 2, 11)])
        self.yes([(0, 2, 2), (1, 3, 9), (2, 0, 13), (2, 3, 4), (3, 1, 0), (3, 2, 11)])
        self.no([(0, 2, 2), (1, 3, 9), (2, 0, 14), (2, 3, 4), (3, 1, 0), (3, 2, 11)])

    def test_a_turn_that_is_barred(self):
        least = [(0, 1, 1), (0, 2, 2), (1, 0, 6), (2, 3, 4), (3, 1, 5)]
        self.yes(least, signs=(("turn", 0, 1, 3),))
        self.no(least, signs=(("turn", 3, 1, 0),))
        self.no(least, signs=(("turn", 1, 0, 2),))

    def test_no_directions(self):
        for entry in ((0, 0, 9), (0, 3, 9), (1, 2, 9), (0, 4, 9), (-1, 0, 9), (4, 0, 9)):
            self.no(sorted([*self.GOOD, entry]), [entry])

    def test_wrong_items(self):
        for at, entry in enumerate(self.GOOD):
            for wrong in wrong_items(entry):
                self.no([*self.GOOD[:at], wrong, *self.GOOD[at + 1:]])
            for spot in range(3):
                for wrong in (None, True, False, "0", (0,), [0], object(), float("nan"), 0.0, 2.0):
                    bad = entry[:spot] + (wrong,) + entry[spot + 1:]
                    self.no([*self.GOOD[:at], bad, *self.GOOD[at + 1:]])

    def test_true_and_false(self):
        self.yes([(0, 2, 1), (2, 3, 1), (3, 1, 1)], [(0, 2, 0), (2, 3, 0), (3, 1, 0)])
        self.no([(0, 2, True), (2, 3, 1), (3, 1, 1)], [(0, 2, 1), (2, 3, 1), (3, True, 1)], [(False, 2, 0), (2, 3, 0), (3, 1, 0)])
        self.no([(0, 2, 0), (2, 3, 0), (3, 1, False)])

    def test_other_things(self):
        self.no(tuple(self.GOOD), {entry: True for entry in self.GOOD}, {0: self.GOOD}, str(self.GOOD), [self.GOOD])
        self.no([list(entry) for entry in self.GOOD], *WRONG, ())
        for value in WRONG:
            expected = value == [] and isinstance(value, list)
            self.assertIs(is_bound(PARTS, (), 4, value), expected, value)

    def test_no_drive_is_shorter(self):
        for drive in ((0, 2), (0, 2, 3), (0, 2, 3, 1)):
            self.assertIs(is_free(SQUARE, self.SIGNS, drive), True)
            number = {entry[:2]: entry[2] for entry in self.GOOD}[drive[-2:]]
            self.assertGreaterEqual(drive_length(SQUARE, drive), number)
