"""trades."""

import unittest

from quietstreets.errors import InvalidNumber, InvalidOffers, InvalidTown
from quietstreets.trades import trades

from sample_towns import LINE, LOLLIPOP, SQUARE, SQUARE_SIGNS, TWO, WRONG, Agreeable, Touchy, put

# Gates 0 and 1 with a quiet street of 1 between them, and ways round of 3, 6 and 12.
ROUNDS = (
    5,
    ((0, 1, 1), (0, 2, 1), (0, 3, 3), (0, 4, 6), (1, 2, 2), (1, 3, 3), (1, 4, 6)),
    (),
    (0, 1),
    (),
    (0,),
)
# A street of 1 between the gates, a house beside it, and a way round that is 99 longer.
LONG = (5, ((0, 1, 1), (0, 2, 1), (0, 3, 50), (1, 3, 50)), (), (0, 1), (2,), (0,))


class Trades(unittest.TestCase):
    def check(self, town, offers, home, expected):
        with self.subTest(town=town, offers=offers, home=home):
            self.assertEqual(trades(town, offers, home), expected)

    def test_example(self):
        self.check(SQUARE, TWO, 0, [(2, 2)])

    def test_defined_in_its_file(self):
        self.assertEqual(trades.__module__, "quietstreets.trades")

    def test_none(self):
        self.check(SQUARE, (), 0, [])
        self.check(SQUARE, TWO[1:2], 99, [])
        self.check(put(LINE, (5,), (0,)), ((("shut", 0, 1), 1),), 99, [])
        self.check(LOLLIPOP, ((("shut", 3, 4), 1),), 99, [])

    def test_no_signs_are_needed(self):
        for offers in ((), TWO, TWO[:1]):
            self.check(put(SQUARE, (5,), ()), offers, 0, [(0, 0)])
        self.check(put(SQUARE, (2,), (("shut", 0, 1),)), TWO[1:], 0, [(0, 0)])

    def test_ways_round(self):
        offers = ((("shut", 0, 1), 3), (("shut", 0, 2), 1))
        self.check(ROUNDS, offers, 0, [(3, 2)])
        self.check(put(ROUNDS, (5,), (0, 1)), offers, 0, [(4, 5)])
        self.check(put(ROUNDS, (5,), (0, 1, 2)), offers + ((("shut", 0, 3), 2),), 0, [(6, 11)])
        self.check(put(ROUNDS, (5,), (0, 1, 2)), offers, 0, [])

    def test_dearer_signs_for_the_same_growth(self):
        # Each of the two signs sends all round by place 2.
        town = (4, ((0, 1, 1), (0, 2, 1), (0, 3, 5), (1, 3, 1), (2, 3, 2)), (), (0, 3), (), (0,))
        self.check(town, ((("shut", 0, 1), 4), (("shut", 1, 3), 1)), 0, [(1, 1)])
        self.check(town, ((("shut", 0, 1), 4), (("shut", 1, 3), 4)), 0, [(4, 1)])

    def test_several_trades(self):
        # The street 1-2 is quiet. The sign at 0-1 sends all the long way round by
        # place 4; those at place 1 are dearer and send all by place 5.
        streets = ((0, 1, 1), (0, 4, 9), (1, 2, 1), (1, 5, 2), (2, 4, 1), (2, 5, 2))
        town = (6, streets, (), (0, 2), (), (2,))
        offers = ((("shut", 0, 1), 1), (("shut", 1, 2), 4), (("turn", 0, 1, 2), 2), (("turn", 2, 1, 0), 1))
        # 10 or 5 instead of 2: the growths are 8 and 3.
        self.check(town, offers, 0, [(1, 8), (3, 3)])
        self.check(town, offers[:2], 0, [(1, 8), (4, 3)])
        self.check(town, offers[1:], 0, [(3, 3)])
        self.check(town, offers[:1], 0, [(1, 8)])
        self.check(town, ((("shut", 0, 1), 4),) + offers[1:], 0, [(3, 3)])
        self.check(town, ((("shut", 0, 1), 3),) + offers[1:], 0, [(3, 3)])
        self.check(town, ((("shut", 0, 1), 2),) + offers[1:], 0, [(2, 8), (3, 3)])

    def test_the_greatest_growth_counts(self):
        # There it grows by 2, back by 4.
        streets = ((0, 1, 1), (0, 2, 2), (1, 3, 1), (2, 3, 2))
        town = (4, streets, (("way", 0, 1),), (0, 3), (), (0,))
        self.check(town, ((("way", 1, 0), 1),), 0, [(1, 2)])
        town = put(SQUARE, (3,), (0, 1, 3))
        self.check(town, ((("shut", 0, 1), 1),), 0, [(1, 4)])

    def test_a_growth_of_99(self):
        offers = ((("shut", 0, 1), 1),)
        self.check(LONG, offers, 0, [(1, 99)])
        self.check(put(LONG, (1, 2), (0, 3, 49)), offers, 0, [(1, 98)])
        self.check(put(LONG, (1, 2), (0, 3, 51)), offers, 0, [])
        self.check(put(LONG, (1, 2), (0, 3, 51)), offers, 99, [])

    def test_home(self):
        # The house 1 is 1 from the gate 0, along the quiet street, and 2 from the gate 3.
        town = (4, ((0, 1, 1), (0, 3, 5), (1, 3, 2)), (), (0, 3), (1,), (0,))
        offers = ((("shut", 0, 1), 1), (("shut", 1, 3), 4))
        self.check(town, offers, 0, [(4, 2)])
        self.check(town, offers, 1, [(1, 2)])
        self.check(town, offers, 99, [(1, 2)])

    def test_home_of_98_and_99(self):
        # The house 2 is 1 from the gate 0, along a quiet street, and 99 from the gate 1.
        streets = ((0, 2, 1), (0, 3, 99), (1, 2, 99), (1, 3, 99))
        town = (4, streets, (), (0, 1), (2,), (0,))
        offers = ((("shut", 0, 2), 1),)
        self.check(town, offers, 99, [(1, 98)])
        self.check(town, offers, 98, [(1, 98)])
        self.check(town, offers, 97, [])

    def test_growths_of_houses_do_not_count(self):
        # For the house 2 it is 8 more, between the gates only 2.
        town = (3, ((0, 1, 12), (0, 2, 1), (1, 2, 9)), (), (0, 1), (2,), (1,))
        offers = ((("shut", 0, 2), 1),)
        self.check(town, offers, 8, [(1, 2)])
        self.check(town, offers, 99, [(1, 2)])
        self.check(town, offers, 7, [])

    def test_prices_add_up(self):
        offers = tuple((sign, 9) for sign, _ in TWO[1:])
        self.check(SQUARE, offers, 0, [(18, 2)])
        self.check(SQUARE, TWO[:1] + offers, 0, [(3, 2)])

    def test_equal_trades_are_told_once(self):
        offers = ((("shut", 0, 1), 2), (("shut", 1, 3), 2), (("turn", 0, 1, 3), 1), (("way", 1, 0), 1))
        self.check(SQUARE, offers, 0, [(2, 2)])

    def test_more_signs_can_make_a_quiet_town_loud(self):
        town = (4, ((0, 1, 1), (0, 2, 2), (0, 3, 9), (1, 3, 1), (2, 3, 2)), (), (0, 3), (), (1,))
        self.check(town, ((("shut", 0, 1), 1), (("shut", 0, 2), 1)), 0, [(0, 0)])
        self.check(put(town, (5,), (0, 1)), ((("shut", 0, 1), 1), (("shut", 0, 2), 1)), 0, [(2, 7)])

    def test_a_new_list(self):
        first = trades(SQUARE, TWO, 0)
        self.assertIs(type(first), list)
        self.assertIs(type(first[0]), tuple)
        first.clear()
        self.check(SQUARE, TWO, 0, [(2, 2)])

    def test_invalid(self):
        for home in (-1, 100, 10 ** 30, True, False, None, "0", (0,), [0], *WRONG, Agreeable(), Touchy()):
            self.assertRaises(InvalidNumber, trades, SQUARE, TWO, home)
            self.assertRaises(InvalidOffers, trades, SQUARE, TWO[::-1], home)
            self.assertRaises(InvalidTown, trades, SQUARE[:5], TWO[::-1], home)
        for home in (0, 1, 98, 99):
            self.check(SQUARE, TWO, home, [(2, 2)])
        nine = tuple((sign, 1) for sign in SQUARE_SIGNS[:9])
        for offers in (*WRONG, nine, ((("way", 0, 1), 0),), ((("way", 0, 1), 10),), None):
            self.assertRaises(InvalidOffers, trades, SQUARE, offers, 0)
