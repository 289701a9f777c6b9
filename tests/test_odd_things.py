"""Arguments that answer oddly, or not at all, when they are compared or counted."""

import unittest

from quietstreets.best import best_drives
from quietstreets.cheapest import least_price
from quietstreets.closures import closing_growths
from quietstreets.demands import is_demand, lacks
from quietstreets.desk import Desk
from quietstreets.drives import bars, drive_length, is_drive, is_free
from quietstreets.errors import (
    InvalidDemand, InvalidDrive, InvalidNumber, InvalidOffers, InvalidPlace, InvalidSign, InvalidSigns, InvalidStreet,
    InvalidTown, NotOffered, ParseError,
)
from quietstreets.lengths import is_bound, least_length, table
from quietstreets.naive import naive_closures, naive_least_price, naive_length
from quietstreets.needless import breaking_streets, needless_signs
from quietstreets.offers import are_good, are_offers, price_of
from quietstreets.papers import is_paper, paper
from quietstreets.parting import closure_paper, fewest_closures, is_closure_paper
from quietstreets.quietable import can_be_quiet
from quietstreets.shares import moved_shares, shares
from quietstreets.texts import format_sign, format_town, parse_town
from quietstreets.towns import are_signs, closed, is_town
from quietstreets.trades import trades

from sample_towns import GRID, LOLLIPOP, SQUARE, TWO, Agreeable, Touchy, bent


def nested(depth):
    """A tuple in a tuple in a tuple ..; too deep to be compared or printed."""
    value = ()
    for _ in range(depth):
        value = (value,)
    return value


def own_tail():
    """A list that contains itself."""
    value = [0]
    value.append(value)
    return value


ODD = (Agreeable(), Touchy(), Agreeable, own_tail(), (own_tail(),) * 6, nested(5000), (nested(5000),) * 6)


class OddThings(unittest.TestCase):
    def test_towns(self):
        for value in ODD:
            self.assertIs(is_town(value), False)
            self.assertRaises(InvalidTown, closed, value, 0)
            self.assertRaises(InvalidTown, format_town, value)
            self.assertRaises(InvalidTown, Desk, value, value)
        for town in (SQUARE, GRID, LOLLIPOP):
            for value in bent(town):
                self.assertIs(is_town(value), False)

    def test_signs(self):
        signs = (("shut", 0, 1), ("turn", 0, 1, 3), ("way", 1, 0))
        self.assertIs(are_signs(SQUARE, signs), True)
        for value in [*ODD, *bent(signs)]:
            self.assertIs(are_signs(SQUARE, value), False)
            self.assertRaises(InvalidSigns, is_free, SQUARE, value, (0, 1))
            self.assertRaises(InvalidSigns, shares, SQUARE, value)
        for sign in signs:
            for value in [*ODD, *bent(sign)]:
                self.assertRaises(InvalidSign, bars, SQUARE, value, (0, 1))
                self.assertRaises(InvalidSign, moved_shares, SQUARE, (), value)
                self.assertRaises(InvalidSign, format_sign, SQUARE, value)

    def test_drives(self):
        for value in [*ODD, *bent((0, 1, 3))]:
            self.assertIs(is_drive(SQUARE, value), False)
            self.assertRaises(InvalidDrive, drive_length, SQUARE, value)
            self.assertRaises(InvalidDrive, bars, SQUARE, ("way", 0, 1), value)
            self.assertRaises(InvalidDrive, is_free, SQUARE, (), value)

    def test_indexes(self):
        for value in ODD:
            self.assertRaises(InvalidStreet, closed, SQUARE, value)
            self.assertRaises(InvalidStreet, closing_growths, SQUARE, (), value)
            self.assertRaises(InvalidStreet, can_be_quiet, SQUARE, TWO, (2, 0, ()), value)

    def test_places(self):
        for value in ODD:
            for function in (least_length, best_drives, fewest_closures, naive_length, naive_closures):
                self.assertRaises(InvalidPlace, function, SQUARE, (), value, 3)
                self.assertRaises(InvalidPlace, function, SQUARE, (), 0, value)
                self.assertRaises(InvalidPlace, function, SQUARE, (), value, value)
            self.assertRaises(InvalidPlace, table, SQUARE, (), value)

    def test_demands(self):
        for value in [*ODD, *bent((2, 0, ((0, 1), (0, 1, 3))))]:
            self.assertIs(is_demand(SQUARE, value), False)
            self.assertRaises(InvalidDemand, lacks, SQUARE, (), value)

    def test_bounds(self):
        good = ((0, 2, 2), (2, 3, 4), (3, 1, 0))
        self.assertIs(is_bound(SQUARE, (("shut", 0, 1),), 0, list(good)), True)
        for value in [*ODD, good, *[list(odd) if isinstance(odd, tuple) else odd for odd in bent(good)]]:
            self.assertIs(is_bound(SQUARE, (("shut", 0, 1),), 0, value), False)

    def test_offers(self):
        for value in [*ODD, *bent(TWO)]:
            self.assertIs(are_offers(SQUARE, value), False)
            for function in (least_price, trades, naive_least_price):
                self.assertRaises(InvalidOffers, function, SQUARE, value, None)
            self.assertRaises(InvalidOffers, Desk, SQUARE, value)

    def test_bought_signs(self):
        for value in [*ODD, *bent((("shut", 0, 1), ("way", 1, 0)))]:
            self.assertRaises(InvalidSigns, price_of, SQUARE, TWO, value)
            for function in (are_good, needless_signs, breaking_streets):
                self.assertRaises(InvalidSigns, function, SQUARE, TWO, (2, 0, ()), value)

    def test_numbers(self):
        for value in ODD:
            self.assertRaises(InvalidNumber, trades, SQUARE, TWO, value)
            self.assertRaises(InvalidNumber, paper, SQUARE, TWO, (2, 0, ()), value)
            self.assertRaises(InvalidNumber, is_paper, SQUARE, TWO, (2, 0, ()), value, value)
            self.assertRaises(InvalidNumber, closure_paper, SQUARE, (), 0, 3, value)
            self.assertRaises(InvalidNumber, is_closure_paper, SQUARE, (), 0, 3, value, value)

    def test_papers(self):
        good = (((), ("loud", (0, 1, 3))), ((("turn", 0, 1, 3),), ("loud", (3, 1, 0))))
        offers = TWO[1:2]
        self.assertIs(is_paper(SQUARE, offers, (2, 0, ()), 9, list(good)), True)
        for value in [*ODD, good, *[list(odd) if isinstance(odd, tuple) else odd for odd in bent(good)]]:
            self.assertIs(is_paper(SQUARE, offers, (2, 0, ()), 9, value), False)
        good = (((), ("loud", (0, 1, 3))), ((("turn", 0, 1, 3),), ("lack", ("through", 0, 3))))
        self.assertIs(is_paper(SQUARE, offers, (1, 0, ()), 9, list(good)), True)
        for value in bent(good):
            self.assertIs(is_paper(SQUARE, offers, (1, 0, ()), 9, list(value) if isinstance(value, tuple) else value), False)

    def test_closure_papers(self):
        good = (((), ("drive", (0, 1, 3))), ((0,), ("many",)), ((2,), ("many",)))
        self.assertIs(is_closure_paper(SQUARE, (), 0, 3, 1, list(good)), True)
        for value in [*ODD, good, *[list(odd) if isinstance(odd, tuple) else odd for odd in bent(good)]]:
            self.assertIs(is_closure_paper(SQUARE, (), 0, 3, 1, value), False)

    def test_desks(self):
        desk = Desk(SQUARE, TWO)
        desk.buy(("way", 1, 0))
        for value in [*ODD, *bent(("way", 1, 0))]:
            self.assertRaises(NotOffered, desk.buy, value)
            self.assertRaises(NotOffered, desk.give_back, value)
            self.assertIs(desk == value, False)
        self.assertEqual(desk.signs(), (("way", 1, 0),))

    def test_texts(self):
        for value in ODD:
            self.assertRaises(ParseError, parse_town, value)
