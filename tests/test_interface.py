"""The whole interface: its names and arguments, and every example to the value."""

import inspect
import unittest
from importlib import import_module

from quietstreets.best import best_drives, count_best
from quietstreets.cheapest import all_cheapest, least_price, sure_signs
from quietstreets.closures import closing_growths, dearest_street
from quietstreets.demands import growths, home_growths, is_demand, lacks
from quietstreets.desk import Desk
from quietstreets.drives import bars, drive_length, is_drive, is_free
from quietstreets.lengths import is_bound, least_length, table
from quietstreets.naive import naive_closures
from quietstreets.needless import breaking_streets, needless_signs
from quietstreets.offers import are_good, are_offers, price_of
from quietstreets.papers import is_paper, paper
from quietstreets.parting import closure_paper, fewest_closures, is_closure_paper, parting_closures
from quietstreets.quiet import is_quiet, loud_drives, used_streets
from quietstreets.quietable import can_be_quiet, greatest_quiet
from quietstreets.shares import moved_shares, shares
from quietstreets.texts import format_sign, format_town, parse_town
from quietstreets.towns import are_signs, closed, is_town
from quietstreets.trades import trades

from sample_towns import SQUARE, TWO

INTERFACE = {
    "towns": ("is_town(value)", "are_signs(town, value)", "closed(town, street)"),
    "drives": ("is_drive(town, value)", "drive_length(town, drive)", "bars(town, sign, drive)", "is_free(town, signs, drive)"),
    "lengths": ("least_length(town, signs, start, goal)", "table(town, signs, start)", "is_bound(town, signs, start, value)"),
    "best": ("best_drives(town, signs, start, goal)", "count_best(town, signs, start, goal)"),
    "quiet": ("is_quiet(town, signs)", "loud_drives(town, signs)", "used_streets(town, signs)"),
    "demands": (
        "is_demand(town, value)", "growths(town, signs)", "home_growths(town, signs)", "lacks(town, signs, demand)",
    ),
    "offers": ("are_offers(town, value)", "price_of(town, offers, signs)", "are_good(town, offers, demand, signs)"),
    "cheapest": (
        "least_price(town, offers, demand)", "all_cheapest(town, offers, demand)", "sure_signs(town, offers, demand)",
    ),
    "papers": ("paper(town, offers, demand, price)", "is_paper(town, offers, demand, price, value)"),
    "trades": ("trades(town, offers, home)",),
    "quietable": ("can_be_quiet(town, offers, demand, streets)", "greatest_quiet(town, offers, demand)"),
    "needless": ("needless_signs(town, offers, demand, signs)", "breaking_streets(town, offers, demand, signs)"),
    "closures": ("closing_growths(town, signs, street)", "dearest_street(town, signs)"),
    "parting": (
        "fewest_closures(town, signs, start, goal)", "parting_closures(town, signs, start, goal)",
        "closure_paper(town, signs, start, goal, number)", "is_closure_paper(town, signs, start, goal, number, value)",
    ),
    "shares": ("shares(town, signs)", "moved_shares(town, signs, sign)"),
    "texts": ("format_sign(town, sign)", "format_town(town)", "parse_town(text)"),
    "naive": (
        "naive_length(town, signs, start, goal)", "naive_least_price(town, offers, demand)",
        "naive_closures(town, signs, start, goal)",
    ),
}
DESK = ("buy(self, sign)", "give_back(self, sign)", "signs(self)", "price(self)", "undo(self)", "duplicate(self)")
SHUT = (("shut", 0, 1),)
BOTH = (("turn", 0, 1, 3), ("way", 1, 0))

EXAMPLES = (
    (is_town, (SQUARE,), True),
    (are_signs, (SQUARE, SHUT), True),
    (closed, (SQUARE, 0), (4, ((0, 2, 2), (1, 3, 1), (2, 3, 2)), (), (0, 3), (), ())),
    (is_drive, (SQUARE, (0, 1, 0)), False),
    (drive_length, (SQUARE, (0, 2, 3)), 4),
    (bars, (SQUARE, ("turn", 0, 1, 3), (0, 1, 3)), True),
    (is_free, (SQUARE, (("way", 1, 0),), (0, 1, 3)), True),
    (least_length, (SQUARE, (), 0, 3), 2),
    (table, (SQUARE, (("turn", 0, 1, 3),), 0), [(0, 1, 1), (0, 2, 2), (1, 0, 6), (2, 3, 4), (3, 1, 5)]),
    (is_bound, (SQUARE, SHUT, 0, [(0, 2, 2), (2, 3, 4), (3, 1, 0)]), True),
    (best_drives, (SQUARE, (), 1, 2), [(1, 0, 2), (1, 3, 2)]),
    (count_best, (SQUARE, (), 1, 2), 2),
    (is_quiet, (SQUARE, ()), False),
    (loud_drives, (SQUARE, ()), [(0, 1, 3), (3, 1, 0)]),
    (used_streets, (SQUARE, ()), [0, 2]),
    (is_demand, (SQUARE, (2, 0, ((1, 3),))), True),
    (growths, (SQUARE, SHUT), [(0, 3, 2), (3, 0, 2)]),
    (home_growths, (SQUARE, ()), []),
    (lacks, (SQUARE, SHUT, (1, 0, ())), [("through", 0, 3), ("through", 3, 0)]),
    (are_offers, (SQUARE, TWO), True),
    (price_of, (SQUARE, TWO, BOTH), 2),
    (are_good, (SQUARE, TWO, (2, 0, ()), SHUT), True),
    (least_price, (SQUARE, TWO, (2, 0, ())), 2),
    (all_cheapest, (SQUARE, TWO, (2, 0, ())), [BOTH]),
    (sure_signs, (SQUARE, TWO, (2, 0, ())), list(BOTH)),
    (is_paper, (SQUARE, TWO, (2, 0, ()), 3, [((), ("loud", (0, 1, 3)))]), False),
    (trades, (SQUARE, TWO, 0), [(2, 2)]),
    (can_be_quiet, (SQUARE, TWO, (9, 9, ()), (0, 1)), False),
    (greatest_quiet, (SQUARE, TWO, (2, 0, ())), [(0, 2), (1, 3)]),
    (needless_signs, (SQUARE, TWO, (2, 0, ()), (("shut", 0, 1), ("way", 1, 0))), [("way", 1, 0)]),
    (breaking_streets, (SQUARE, TWO, (2, 0, ()), SHUT), [1, 3]),
    (closing_growths, (SQUARE, (), 0), [(0, 3, 2), (3, 0, 2)]),
    (dearest_street, (SQUARE, ()), 0),
    (fewest_closures, (SQUARE, (), 0, 3), 2),
    (parting_closures, (SQUARE, SHUT, 0, 3), [(1,), (3,)]),
    (is_closure_paper, (SQUARE, (), 0, 3, 1, [((), ("drive", (0, 1, 3)))]), False),
    (shares, (SQUARE, ()), [(2, 1), (0, 1), (2, 1), (0, 1)]),
    (moved_shares, (SQUARE, (), ("shut", 0, 1)), [(-2, 1), (2, 1), (-2, 1), (2, 1)]),
    (format_sign, (SQUARE, ("turn", 0, 1, 3)), "turn 0 1 3"),
    (format_town, (SQUARE,), "4; 0-1:1, 0-2:2, 1-3:1, 2-3:2; none; 0, 3; none; 0"),
    (parse_town, ("2; 0-1:7; none; 0, 1; none; none",), (2, ((0, 1, 7),), (), (0, 1), (), ())),
    (naive_closures, (SQUARE, (), 0, 3), 2),
)


class Names(unittest.TestCase):
    def test_functions(self):
        for name, functions in INTERFACE.items():
            module = import_module(f"quietstreets.{name}")
            for head in functions:
                with self.subTest(head):
                    function = vars(module)[head.split("(")[0]]
                    self.assertTrue(inspect.isfunction(function))
                    self.assertEqual(function.__module__, module.__name__)
                    self.assertEqual(head.split("(")[0] + str(inspect.signature(function)), head)

    def test_desk(self):
        self.assertEqual(str(inspect.signature(Desk)), "(town, offers)")
        for head in DESK:
            name = head.split("(")[0]
            self.assertEqual(name + str(inspect.signature(vars(Desk)[name])), head)
        for name in ("__len__", "__str__", "__eq__"):
            self.assertTrue(inspect.isfunction(vars(Desk)[name]))


class Examples(unittest.TestCase):
    def test_to_the_value(self):
        for function, arguments, expected in EXAMPLES:
            with self.subTest(function.__name__):
                found = function(*arguments)
                self.assertEqual(found, expected)
                self.assertIs(type(found), type(expected))

    def test_papers(self):
        # These may return another paper than the one that the interface shows.
        shown = [((), ("dear",))]
        for value in (shown, paper(SQUARE, TWO, (2, 0, ()), 0)):
            self.assertIs(is_paper(SQUARE, TWO, (2, 0, ()), 0, value), True)
        shown = [((), ("many",))]
        for value in (shown, closure_paper(SQUARE, (), 0, 3, 0)):
            self.assertIs(is_closure_paper(SQUARE, (), 0, 3, 0, value), True)

    def test_desk(self):
        d = Desk(SQUARE, TWO)
        self.assertIs(d.buy(("shut", 0, 1)), True)
        self.assertEqual(str(d), "3")
        self.assertEqual(d.signs(), (("shut", 0, 1),))
        self.assertEqual(d.price(), 3)
        self.assertEqual(d.undo(), ("shut", 0, 1))
