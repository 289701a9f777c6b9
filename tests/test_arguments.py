"""What holds for every function: which exception comes first, and that nothing is modified."""

import copy
import unittest

from quietstreets.best import best_drives, count_best
from quietstreets.cheapest import all_cheapest, least_price, sure_signs
from quietstreets.closures import closing_growths, dearest_street
from quietstreets.demands import growths, home_growths, is_demand, lacks
from quietstreets.desk import Desk
from quietstreets.drives import bars, drive_length, is_drive, is_free
from quietstreets.errors import (
    InvalidDemand, InvalidDrive, InvalidNumber, InvalidOffers, InvalidPlace, InvalidSign, InvalidSigns, InvalidStreet,
    InvalidTown, NoTown, NotGood, ParseError,
)
from quietstreets.lengths import is_bound, least_length, table
from quietstreets.naive import naive_closures, naive_least_price, naive_length
from quietstreets.needless import breaking_streets, needless_signs
from quietstreets.offers import are_good, are_offers, price_of
from quietstreets.papers import is_paper, paper
from quietstreets.parting import closure_paper, fewest_closures, is_closure_paper, parting_closures
from quietstreets.quiet import is_quiet, loud_drives, used_streets
from quietstreets.quietable import can_be_quiet, greatest_quiet
from quietstreets.shares import moved_shares, shares
from quietstreets.texts import format_sign, format_town, parse_town
from quietstreets.towns import are_signs, closed, is_town
from quietstreets.trades import trades

from sample_towns import GRID, LINE, LOLLIPOP, SQUARE, TWO, WRONG, put, spoiled

SIGNS = (("way", 0, 1),)
PLACES = (InvalidTown, InvalidSigns, InvalidPlace, InvalidPlace)
DEMAND = (2, 0, ((0, 1),))
QUESTION = (InvalidTown, InvalidOffers, InvalidDemand)
TWO_SIGNS = (("turn", 0, 1, 3), ("way", 1, 0))

# Each function with arguments that are right and with what is raised for each
# one that is wrong, in the order of the arguments; behind these stand the
# values that it only looks through.
FUNCTIONS = (
    (are_signs, (SQUARE, (("shut", 0, 1),)), (InvalidTown,)),
    (closed, (SQUARE, 0), (InvalidTown, InvalidStreet)),
    (is_drive, (SQUARE, (0, 1)), (InvalidTown,)),
    (drive_length, (SQUARE, (0, 1, 3)), (InvalidTown, InvalidDrive)),
    (bars, (SQUARE, ("way", 0, 1), (0, 1, 3)), (InvalidTown, InvalidSign, InvalidDrive)),
    (is_free, (SQUARE, SIGNS, (0, 1, 3)), (InvalidTown, InvalidSigns, InvalidDrive)),
    (least_length, (SQUARE, SIGNS, 0, 3), PLACES),
    (table, (SQUARE, SIGNS, 0), PLACES[:3]),
    (is_bound, (SQUARE, SIGNS, 0, [(0, 2, 2), (1, 0, 6), (2, 3, 4), (3, 1, 5)]), PLACES[:3]),
    (best_drives, (SQUARE, SIGNS, 0, 3), PLACES),
    (count_best, (SQUARE, SIGNS, 0, 3), PLACES),
    (is_quiet, (SQUARE, SIGNS), PLACES[:2]),
    (loud_drives, (SQUARE, SIGNS), PLACES[:2]),
    (used_streets, (SQUARE, SIGNS), PLACES[:2]),
    (is_demand, (SQUARE, (2, 0, ((1, 3),))), (InvalidTown,)),
    (growths, (SQUARE, SIGNS), PLACES[:2]),
    (home_growths, (put(SQUARE, (4,), (1, 2)), SIGNS), PLACES[:2]),
    (lacks, (SQUARE, SIGNS, (1, 0, ((0, 1, 3),))), (InvalidTown, InvalidSigns, InvalidDemand)),
    (are_offers, (SQUARE, TWO), (InvalidTown,)),
    (price_of, (SQUARE, TWO, (("shut", 0, 1),)), (InvalidTown, InvalidOffers, InvalidSigns)),
    (are_good, (SQUARE, TWO, DEMAND, (("shut", 0, 1),)), QUESTION + (InvalidSigns,)),
    (least_price, (SQUARE, TWO, DEMAND), QUESTION),
    (all_cheapest, (SQUARE, TWO, DEMAND), QUESTION),
    (sure_signs, (SQUARE, TWO, DEMAND), QUESTION),
    (paper, (SQUARE, TWO, DEMAND, 2), QUESTION + (InvalidNumber,)),
    (is_paper, (SQUARE, TWO, DEMAND, 2, [((), ("loud", (0, 1, 3)))]), QUESTION + (InvalidNumber,)),
    (trades, (SQUARE, TWO, 9), (InvalidTown, InvalidOffers, InvalidNumber)),
    (can_be_quiet, (SQUARE, TWO, DEMAND, (0, 2)), QUESTION + (InvalidStreet,)),
    (greatest_quiet, (SQUARE, TWO, DEMAND), QUESTION),
    (needless_signs, (SQUARE, TWO, (2, 0, ()), (("shut", 0, 1), ("way", 1, 0))), QUESTION + (InvalidSigns,)),
    (breaking_streets, (SQUARE, TWO, DEMAND, TWO_SIGNS), QUESTION + (InvalidSigns,)),
    (closing_growths, (SQUARE, SIGNS, 0), PLACES[:2] + (InvalidStreet,)),
    (dearest_street, (SQUARE, SIGNS), PLACES[:2]),
    (fewest_closures, (SQUARE, SIGNS, 0, 3), PLACES),
    (parting_closures, (SQUARE, SIGNS, 0, 3), PLACES),
    (closure_paper, (SQUARE, SIGNS, 0, 3, 1), PLACES + (InvalidNumber,)),
    (is_closure_paper, (SQUARE, SIGNS, 0, 3, 0, [((), ("many",))]), PLACES + (InvalidNumber,)),
    (shares, (SQUARE, SIGNS), PLACES[:2]),
    (moved_shares, (SQUARE, SIGNS, ("way", 1, 0)), PLACES[:2] + (InvalidSign,)),
    (format_sign, (SQUARE, ("way", 0, 1)), (InvalidTown, InvalidSign)),
    (format_town, (SQUARE,), (InvalidTown,)),
    (Desk, (SQUARE, TWO), (InvalidTown, InvalidOffers)),
    (naive_length, (SQUARE, SIGNS, 0, 3), PLACES),
    (naive_least_price, (SQUARE, TWO, DEMAND), QUESTION),
    (naive_closures, (SQUARE, SIGNS, 0, 3), PLACES),
)
# The names of those that return a list.
RETURN_LISTS = [
    "table", "best_drives", "loud_drives", "used_streets", "growths", "home_growths", "lacks",
    "all_cheapest", "sure_signs", "paper", "trades", "greatest_quiet", "needless_signs", "breaking_streets",
    "closing_growths", "parting_closures", "closure_paper", "shares", "moved_shares",
]


def with_wrong(right, wrong_ones, value):
    """The arguments with the value in the places of some of them."""
    return tuple(value if at in wrong_ones else item for at, item in enumerate(right))


def subsets(many):
    """All lists of some of so many numbers, but not of none."""
    return [[at for at in range(many) if choice >> at & 1] for choice in range(1, 1 << many)]


class Exceptions(unittest.TestCase):
    def test_each_and_the_first_of_several(self):
        for function, right, errors in FUNCTIONS:
            for wrong_ones in subsets(len(errors)):
                for value in WRONG:
                    with self.subTest(function=function.__name__, wrong=wrong_ones, value=value):
                        with self.assertRaises(errors[wrong_ones[0]]) as caught:
                            function(*with_wrong(right, wrong_ones, value))
                        self.assertIs(type(caught.exception), errors[wrong_ones[0]])

    def test_wrong_towns_of_all_kinds(self):
        for function, right, _ in FUNCTIONS:
            for value in spoiled(GRID):
                with self.assertRaises(InvalidTown):
                    function(value, *right[1:])

    def test_invalid_town_comes_first(self):
        for town in (None, SQUARE[:5], list(SQUARE), (4, SQUARE[1], (), (0, 4), (), ())):
            self.assertRaises(InvalidTown, closed, town, 99)
            self.assertRaises(InvalidTown, drive_length, town, (0, 0))
            self.assertRaises(InvalidTown, bars, town, ("way", 0, 3), (0, 0))
            self.assertRaises(InvalidTown, is_free, town, (("way", 0, 3),), (0, 0))
            self.assertRaises(InvalidTown, least_length, town, (("way", 0, 3),), 0, 0)
            self.assertRaises(InvalidTown, lacks, town, (("way", 0, 3),), (100, 0, ()))
            self.assertRaises(InvalidTown, are_good, town, TWO[::-1], (100, 0, ()), (("way", 0, 3),))
            self.assertRaises(InvalidTown, paper, town, TWO[::-1], (100, 0, ()), 100)

    def test_others_in_their_order(self):
        self.assertRaises(InvalidSign, bars, SQUARE, ("way", 0, 3), (0, 0))
        self.assertRaises(InvalidSign, bars, SQUARE, ("way", 0, 3), (0, 1))
        self.assertRaises(InvalidDrive, bars, SQUARE, ("way", 0, 1), (0, 0))
        self.assertRaises(InvalidSigns, is_free, SQUARE, (("way", 0, 3),), (0, 0))
        self.assertRaises(InvalidSigns, is_free, SQUARE, (("way", 0, 3),), (0, 1))
        self.assertRaises(InvalidDrive, is_free, SQUARE, (("way", 0, 1),), (0, 0))
        self.assertRaises(InvalidStreet, closed, LINE, 1)
        self.assertRaises(NoTown, closed, LINE, 0)
        for function in (least_length, best_drives, count_best):
            self.assertRaises(InvalidSigns, function, SQUARE, (("way", 0, 3),), 0, 0)
            self.assertRaises(InvalidPlace, function, SQUARE, (("way", 0, 1),), 0, 0)
        for function in (table, is_bound):
            arguments = [[]] if function is is_bound else []
            self.assertRaises(InvalidSigns, function, SQUARE, (("way", 0, 3),), 4, *arguments)
            self.assertRaises(InvalidPlace, function, SQUARE, (("way", 0, 1),), 4, *arguments)
        self.assertRaises(InvalidSigns, lacks, SQUARE, (("way", 0, 3),), (100, 0, ()))
        self.assertRaises(InvalidDemand, lacks, SQUARE, (("way", 0, 1),), (100, 0, ()))
        self.assertRaises(InvalidOffers, price_of, SQUARE, TWO[::-1], (("way", 0, 3),))
        self.assertRaises(InvalidOffers, paper, SQUARE, TWO[::-1], (100, 0, ()), 100)
        self.assertRaises(InvalidDemand, paper, SQUARE, TWO, (100, 0, ()), 100)
        self.assertRaises(InvalidNumber, paper, SQUARE, TWO, (99, 0, ()), 100)
        self.assertRaises(InvalidOffers, trades, SQUARE, TWO[::-1], 100)
        self.assertRaises(InvalidNumber, trades, SQUARE, TWO, 100)
        self.assertRaises(InvalidDemand, can_be_quiet, SQUARE, TWO, (100, 0, ()), (4,))
        self.assertRaises(InvalidStreet, can_be_quiet, SQUARE, TWO, (99, 0, ()), (4,))
        for function in (needless_signs, breaking_streets):
            self.assertRaises(InvalidDemand, function, SQUARE, TWO, (100, 0, ()), (("way", 0, 1),))
            self.assertRaises(InvalidSigns, function, SQUARE, TWO, (99, 0, ()), (("way", 0, 1),))
            self.assertRaises(NotGood, function, SQUARE, TWO, (99, 0, ()), (("way", 1, 0),))
        self.assertRaises(InvalidSigns, closing_growths, SQUARE, (("way", 0, 3),), 4)
        self.assertRaises(InvalidStreet, closing_growths, SQUARE, (("way", 0, 1),), 4)
        for function, rest in ((closure_paper, []), (is_closure_paper, [[]])):
            self.assertRaises(InvalidSigns, function, SQUARE, (("way", 0, 3),), 0, 0, 15, *rest)
            self.assertRaises(InvalidPlace, function, SQUARE, (("way", 0, 1),), 0, 0, 15, *rest)
            self.assertRaises(InvalidNumber, function, SQUARE, (("way", 0, 1),), 0, 1, 15, *rest)
        self.assertRaises(InvalidSigns, moved_shares, SQUARE, (("way", 0, 3),), ("way", 0, 3))
        self.assertRaises(InvalidSign, moved_shares, SQUARE, (("way", 0, 1),), ("way", 0, 1))
        for function in (naive_length, naive_closures):
            self.assertRaises(InvalidSigns, function, SQUARE, (("way", 0, 3),), 0, 0)
            self.assertRaises(InvalidPlace, function, SQUARE, (("way", 0, 1),), 0, 0)
        self.assertRaises(InvalidOffers, naive_least_price, SQUARE, TWO[::-1], (100, 0, ()))
        self.assertRaises(InvalidDemand, naive_least_price, SQUARE, TWO, (100, 0, ()))

    def test_none_where_a_value_is_asked_about(self):
        for value in WRONG:
            self.assertIs(is_town(value), False)
            self.assertIs(is_drive(SQUARE, value), False)
            self.assertIs(are_signs(SQUARE, value), False)
            self.assertIs(is_demand(SQUARE, value), False)
            self.assertIs(is_bound(SQUARE, (), 0, value), False)
            self.assertIs(are_offers(SQUARE, value), False)
            self.assertIs(is_paper(SQUARE, TWO, DEMAND, 0, value), False)
            self.assertIs(is_closure_paper(SQUARE, (), 0, 3, 0, value), False)


class NewLists(unittest.TestCase):
    def test_every_returned_list_is_a_new_one(self):
        seen = []
        for function, right, _ in FUNCTIONS:
            first = function(*right)
            if isinstance(first, list):
                with self.subTest(function.__name__):
                    self.assertNotEqual(first, [])
                    expected = copy.deepcopy(first)
                    first.reverse()
                    first.append(None)
                    self.assertEqual(function(*right), expected)
                    self.assertIsNot(function(*right), function(*right))
                    for item in expected:
                        self.assertNotIsInstance(item, list)
                    seen.append(function.__name__)
        self.assertEqual(seen, RETURN_LISTS)


class NothingIsModified(unittest.TestCase):
    def call(self, function, *arguments):
        before = copy.deepcopy(arguments)
        try:
            function(*arguments)
        except ValueError:
            pass
        self.assertEqual(arguments, before)

    def test_right_arguments(self):
        for function, right, _ in FUNCTIONS:
            self.call(function, *right)
        for town in (SQUARE, LINE, GRID, LOLLIPOP):
            self.call(is_town, town)
            for street in range(len(town[1])):
                self.call(closed, town, street)

    def test_wrong_arguments_that_could_be_modified(self):
        lists = (
            [4, [[0, 1, 1], [0, 2, 2]], [], [0, 1], [], [0]], [["shut", 0, 1]], ["shut", 0, 1], [0, 1, 3], [2, 1, 0],
            {0: 1, 1: 3}, {"town": [0]}, [[]], (4, [(0, 1, 1)], [], [1, 0], [], [0]), ([0, 1], [1, 0]), {3, 1, 2},
        )
        for value in lists:
            self.call(is_town, value)
            self.call(parse_town, value)
            for function, right, errors in FUNCTIONS:
                for wrong_ones in subsets(len(right)):
                    self.call(function, *with_wrong(right, wrong_ones, value))
        for at, part in enumerate(GRID):
            if isinstance(part, tuple):
                self.call(is_town, GRID[:at] + (list(part),) + GRID[at + 1:])
                self.call(closed, GRID[:at] + (list(part),) + GRID[at + 1:], 0)

    def test_a_call_that_raises_changes_nothing(self):
        before = [function(*right) for function, right, _ in FUNCTIONS]
        for function, right, errors in FUNCTIONS:
            for at in range(len(errors)):
                self.assertRaises(errors[at], function, *with_wrong(right, [at], [0]))
        self.assertRaises(NoTown, closed, LINE, 0)
        self.assertRaises(NotGood, needless_signs, SQUARE, TWO, DEMAND, ())
        self.assertRaises(ParseError, parse_town, "none")
        self.assertEqual([function(*right) for function, right, _ in FUNCTIONS], before)

    def test_the_same_again(self):
        for function, right, _ in FUNCTIONS:
            self.assertEqual(function(*right), function(*right))

    def test_names_of_the_arguments(self):
        self.assertIs(is_town(value=SQUARE), True)
        self.assertIs(are_signs(town=SQUARE, value=()), True)
        self.assertEqual(closed(town=SQUARE, street=0)[1], SQUARE[1][1:])
        self.assertIs(is_drive(town=SQUARE, value=(0, 1)), True)
        self.assertEqual(drive_length(town=SQUARE, drive=(0, 1)), 1)
        self.assertIs(bars(town=SQUARE, sign=("way", 0, 1), drive=(0, 1)), True)
        self.assertIs(is_free(town=SQUARE, signs=(), drive=(0, 1)), True)
