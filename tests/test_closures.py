"""closing_growths and dearest_street."""

import unittest

from quietstreets.closures import closing_growths, dearest_street
from quietstreets.demands import growths
from quietstreets.errors import InvalidSigns, InvalidStreet, InvalidTown, NoTown
from quietstreets.towns import closed

from sample_towns import GRID, LINE, LOLLIPOP, SQUARE, SQUARE_SIGNS, TWO, WRONG, Agreeable, Touchy, bent, put

SHUT, TURN, WAY = [sign for sign, _ in TWO]


def with_way_round(row, lengths, inner):
    """A town with a street of 1 between the ends of a row of streets, and a gate beside one of them.

    Drives come to that gate by one street alone, from the last place of the row, and go from it by another one, to
    the place beside it and from there to the last place: of each of these three streets depend two pairs of gates.
    """
    gate, beside = inner
    streets = [(*sorted(ends), length) for ends, length in zip(zip(row, row[1:]), lengths, strict=True)]
    streets += [(*sorted(ends), 1) for ends in ((row[0], row[-1]), (row[-1], gate), (gate, beside), (beside, row[-1]))]
    signs = (("way", gate, row[-1]), ("way", beside, gate))
    return (9, tuple(sorted(streets)), tuple(sorted(signs)), tuple(sorted((row[0], row[-1], gate))), (), ())


class ClosingGrowths(unittest.TestCase):
    def check(self, town, signs, *expected):
        """The growths for each street in turn, those of the pairs in ascending order."""
        gates = town[3]
        pairs = [(g, h) for g in gates for h in gates if g != h]
        self.assertEqual(len(expected), len(town[1]))
        for street, told in enumerate(expected):
            with self.subTest(town=town, signs=signs, street=street):
                self.assertEqual(
                    closing_growths(town, signs, street), [(g, h, growth) for (g, h), growth in zip(pairs, told, strict=True)]
                )

    def test_example(self):
        self.assertEqual(closing_growths(SQUARE, (), 0), [(0, 3, 2), (3, 0, 2)])

    def test_defined_in_their_file(self):
        for function in (closing_growths, dearest_street):
            self.assertEqual(function.__module__, "quietstreets.closures")

    def test_each_street(self):
        self.check(SQUARE, (), (2, 2), (0, 0), (2, 2), (0, 0))
        self.check(put(SQUARE, (3,), (0, 1)), (), (4, 4), (0, 0), (0, 0), (0, 0))
        self.check(put(SQUARE, (5,), (0, 1, 2, 3)), (), (2, 2), (0, 0), (2, 2), (0, 0))

    def test_no_other_way(self):
        self.check(LINE, (), (None, None))
        self.check(LOLLIPOP, (), (None, None), (None, None), (None, None), (None, None), (None, None), (None, None))
        row = (4, ((0, 1, 1), (1, 2, 2), (2, 3, 3)), (), (0, 2), (), ())
        self.check(row, (), (None, None), (None, None), (0, 0))

    def test_against_the_same_signs(self):
        # Under the signs the way round is the best one, and the street 0 is of no more use.
        self.check(SQUARE, (SHUT,), (0, 0), (None, None), (0, 0), (None, None))
        self.check(SQUARE, (TURN,), (0, 2), (None, 0), (0, 2), (None, 0))
        self.check(SQUARE, (WAY,), (2, 0), (0, None), (2, 0), (0, None))

    def test_no_free_drive_at_all(self):
        self.check(SQUARE, (("shut", 0, 1), ("shut", 0, 2)), *[(None, None)] * 4)
        # There by no street, back by 2 and 0, or 3 and 1.
        self.check(SQUARE, (("way", 0, 1), ("way", 0, 2)), (None, 2), (None, 0), (None, 2), (None, 0))
        self.check(LINE, (("way", 0, 1),), (None, None))

    def test_standing_signs(self):
        town = put(SQUARE, (2,), (TURN,))
        self.check(town, (), (0, 2), (None, 0), (0, 2), (None, 0))
        self.check(town, (WAY,), (0, 0), (None, None), (0, 0), (None, None))
        # The sign shuts the street, and it does no harm to close it too.
        self.check(put(SQUARE, (2,), (SHUT,)), (), (0, 0), (None, None), (0, 0), (None, None))

    def test_a_drive_that_comes_to_a_place_again(self):
        # The way from 0 to 2 goes round by 3 and 4, or by the longer street 0-2.
        streets = ((0, 1, 1), (0, 2, 50), (1, 2, 1), (1, 3, 1), (1, 4, 1), (3, 4, 1))
        town = (5, streets, (("turn", 0, 1, 2), ("turn", 2, 1, 0)), (0, 2), (), ())
        self.check(town, (), (45, 45), (0, 0), (45, 45), (45, 45), (45, 45), (45, 45))

    def test_four_gates(self):
        told = closing_growths(GRID, (), 13)
        self.assertEqual([pair[:2] for pair in told], [(g, h) for g in GRID[3] for h in GRID[3] if g != h])
        for street in range(14):
            try:
                left = closed(GRID, street)
            except NoTown:
                continue
            for (g, h, growth), usual in zip(closing_growths(GRID, (), street), growths(left, ())):
                self.assertEqual((g, h), usual[:2])
                self.assertIsNotNone(growth)

    def test_a_new_list(self):
        first = closing_growths(SQUARE, (), 0)
        self.assertIs(type(first), list)
        first.clear()
        self.assertEqual(closing_growths(SQUARE, (), 0), [(0, 3, 2), (3, 0, 2)])

    def test_indexes(self):
        for street in (4, -1, 10 ** 30, True, False, None, "0", (0,), [0], *WRONG, Agreeable(), Touchy()):
            with self.subTest(street=type(street)):
                self.assertRaises(InvalidStreet, closing_growths, SQUARE, (), street)
        self.assertRaises(InvalidStreet, closing_growths, LINE, (), 1)
        self.assertRaises(InvalidStreet, closing_growths, GRID, (), 14)

    def test_signs(self):
        for signs in (
            (("way", 0, 3),), (WAY, SHUT), (SHUT, SHUT), [SHUT], SHUT, None, SQUARE_SIGNS[:13], Agreeable(), Touchy(),
            *WRONG, *bent((SHUT, WAY)),
        ):
            self.assertRaises(InvalidSigns, closing_growths, SQUARE, signs, 0)
            self.assertRaises(InvalidSigns, dearest_street, SQUARE, signs)
        town = put(SQUARE, (2,), (TURN,))
        self.assertRaises(InvalidSigns, closing_growths, town, (TURN,), 0)
        # Twelve are as many as there may be, and closing a street adds none to them.
        self.assertEqual(closing_growths(SQUARE, SQUARE_SIGNS[:12], 0), [(0, 3, None), (3, 0, None)])
        self.assertEqual(dearest_street(SQUARE, SQUARE_SIGNS[:12]), 0)

    def test_first_exception(self):
        right = [SQUARE, (), 0]
        errors = [InvalidTown, InvalidSigns, InvalidStreet]
        wrong = [SQUARE[:5], (("way", 0, 3),), 4]
        for first in range(3):
            self.assertRaises(errors[first], closing_growths, *right[:first], *wrong[first:])
            self.assertRaises(errors[first], closing_growths, *right[:first], wrong[first], *right[first + 1:])
        for first in range(2):
            self.assertRaises(errors[first], dearest_street, *right[:first], *wrong[first:2])


class DearestStreet(unittest.TestCase):
    def check(self, town, signs, expected):
        with self.subTest(town=town, signs=signs):
            self.assertEqual(dearest_street(town, signs), expected)

    def test_example(self):
        self.assertEqual(dearest_street(SQUARE, ()), 0)

    def test_the_greatest_sum(self):
        # 10 longer without the street 2, 8 without the street 0 or 3.
        streets = ((0, 1, 1), (0, 4, 9), (1, 2, 1), (1, 5, 2), (2, 4, 1), (2, 5, 2))
        town = (6, streets, (), (0, 2), (), ())
        self.check(town, (), 0)
        self.check(put(town, (3,), (1, 2)), (), 2)
        self.check(put(town, (3,), (1, 5)), (), 3)
        # Between 0, 1 and 2 the street 0 counts for two pairs, there and back.
        self.check(put(town, (3,), (0, 1, 2)), (), 0)
        self.check(put(town, (3,), (1, 2, 5)), (), 2)

    def test_the_first_of_several(self):
        # Closing 0 or 2 is as dear, and so is closing 1 or 3 under the sign.
        self.check(SQUARE, (), 0)
        self.check(SQUARE, (SHUT,), 1)
        self.check(put(SQUARE, (3,), (1, 2)), (), 0)
        self.check(LOLLIPOP, (), 0)
        self.check(LINE, (), 0)

    def test_sums_of_both_ways(self):
        # There 2 more, back None: the streets 1 and 3 cut one way off, the others cost 2.
        self.check(SQUARE, (TURN,), 1)
        self.check(SQUARE, (WAY,), 1)

    def test_none_counts_999(self):
        # Streets that cut two pairs off count 1998. The street between the ends of the row makes four pairs longer.
        for last, growth in ((94, 499), (95, 500), (96, 501)):
            lengths = (99, 99, 99, 99, 10, last)
            first = with_way_round((0, 2, 3, 4, 5, 6, 1), lengths, (7, 8))
            self.assertEqual(closing_growths(first, (), 0), [
                (0, 1, growth), (0, 7, growth), (1, 0, growth), (1, 7, 0), (7, 0, growth), (7, 1, 0),
            ])
            self.assertEqual(closing_growths(first, (), 3), [
                (0, 1, 0), (0, 7, None), (1, 0, 0), (1, 7, None), (7, 0, 0), (7, 1, 0),
            ])
            # 1996 is less than 1998, and 2000 is more.
            self.check(first, (), 3 if growth == 499 else 0)
            self.check(with_way_round((7, 2, 3, 4, 5, 6, 8), lengths, (0, 1)), (), 0 if growth == 499 else 9)

    def test_all_that_are_cut_off_count(self):
        # The street 3 cuts all off, the streets of the triangle cost 1 or nothing.
        row = (4, ((0, 1, 1), (0, 2, 1), (1, 2, 1), (2, 3, 1)), (), (0, 3), (), ())
        self.check(row, (), 3)
        self.check(put(row, (3,), (0, 1, 3)), (), 3)
        self.check(put(row, (3,), (0, 1)), (), 0)

    def test_no_free_drive_counts_999_too(self):
        # All streets count the same, so the first one is told.
        self.check(SQUARE, (("shut", 0, 1), ("shut", 0, 2)), 0)
        self.check(SQUARE, (("shut", 1, 3), ("shut", 2, 3)), 0)
        self.check(LINE, (("shut", 0, 1),), 0)
