"""Arguments that answer oddly, or not at all, when they are compared or counted."""

import unittest

from quietstreets.best import best_drives
from quietstreets.demands import is_demand, lacks
from quietstreets.drives import bars, drive_length, is_drive, is_free
from quietstreets.errors import (
    InvalidDemand, InvalidDrive, InvalidPlace, InvalidSign, InvalidSigns, InvalidStreet, InvalidTown,
)
from quietstreets.lengths import is_bound, least_length, table
from quietstreets.towns import are_signs, closed, is_town

from sample_towns import GRID, LOLLIPOP, SQUARE, Agreeable, Touchy, bent


def nested(depth):
    """A tuple in a tuple in a tuple ..; too deep to be compared or printed."""
    value = ()
    for _ in range(depth):
        value = (value,)
    return value


def own_tail():
    """A list that contains itself."""
    value = [0]
    value.append(value)
    return value


ODD = (Agreeable(), Touchy(), Agreeable, own_tail(), (own_tail(),) * 6, nested(5000), (nested(5000),) * 6)


class OddThings(unittest.TestCase):
    def test_towns(self):
        for value in ODD:
            self.assertIs(is_town(value), False)
            self.assertRaises(InvalidTown, closed, value, 0)
        for town in (SQUARE, GRID, LOLLIPOP):
            for value in bent(town):
                self.assertIs(is_town(value), False)

    def test_signs(self):
        signs = (("shut", 0, 1), ("turn", 0, 1, 3), ("way", 1, 0))
        self.assertIs(are_signs(SQUARE, signs), True)
        for value in [*ODD, *bent(signs)]:
            self.assertIs(are_signs(SQUARE, value), False)
            self.assertRaises(InvalidSigns, is_free, SQUARE, value, (0, 1))
        for sign in signs:
            for value in [*ODD, *bent(sign)]:
                self.assertRaises(InvalidSign, bars, SQUARE, value, (0, 1))

    def test_drives(self):
        for value in [*ODD, *bent((0, 1, 3))]:
            self.assertIs(is_drive(SQUARE, value), False)
            self.assertRaises(InvalidDrive, drive_length, SQUARE, value)
            self.assertRaises(InvalidDrive, bars, SQUARE, ("way", 0, 1), value)
            self.assertRaises(InvalidDrive, is_free, SQUARE, (), value)

    def test_indexes(self):
        for value in ODD:
            self.assertRaises(InvalidStreet, closed, SQUARE, value)

    def test_places(self):
        for value in ODD:
            for function in (least_length, best_drives):
                self.assertRaises(InvalidPlace, function, SQUARE, (), value, 3)
                self.assertRaises(InvalidPlace, function, SQUARE, (), 0, value)
                self.assertRaises(InvalidPlace, function, SQUARE, (), value, value)
            self.assertRaises(InvalidPlace, table, SQUARE, (), value)

    def test_demands(self):
        for value in [*ODD, *bent((2, 0, ((0, 1), (0, 1, 3))))]:
            self.assertIs(is_demand(SQUARE, value), False)
            self.assertRaises(InvalidDemand, lacks, SQUARE, (), value)

    def test_bounds(self):
        good = ((0, 2, 2), (2, 3, 4), (3, 1, 0))
        self.assertIs(is_bound(SQUARE, (("shut", 0, 1),), 0, list(good)), True)
        for value in [*ODD, good, *[list(odd) if isinstance(odd, tuple) else odd for odd in bent(good)]]:
            self.assertIs(is_bound(SQUARE, (("shut", 0, 1),), 0, value), False)
