"""paper and is_paper."""

import unittest

from quietstreets.cheapest import least_price
from quietstreets.errors import InvalidDemand, InvalidNumber, InvalidOffers, InvalidTown
from quietstreets.papers import is_paper, paper

from sample_towns import LINE, SQUARE, SQUARE_SIGNS, TWO, WRONG, Agreeable, Touchy, bent, put, wrong_items

SHUT, TURN, WAY = [sign for sign, _ in TWO]
DEMAND = (2, 0, ())
THERE, BACK = (0, 1, 3), (3, 1, 0)
DEAR = ("dear",)

# The paper for 2: whatever bars the way there is dear, or leaves the way back.
GOOD = [
    ((), ("loud", THERE)),
    ((SHUT,), DEAR),
    ((SHUT, TURN), DEAR),
    ((TURN,), ("loud", BACK)),
    ((TURN, WAY), DEAR),
]


class Cases(unittest.TestCase):
    def yes(self, *values, town=SQUARE, offers=TWO, demand=DEMAND, price=2):
        for value in values:
            with self.subTest(value=value):
                self.assertIs(is_paper(town, offers, demand, price, value), True)

    def no(self, *values, town=SQUARE, offers=TWO, demand=DEMAND, price=2):
        for value in values:
            with self.subTest(value=value):
                self.assertIs(is_paper(town, offers, demand, price, value), False)


class Paper(Cases):
    def test_example(self):
        found = paper(SQUARE, TWO, DEMAND, 0)
        self.assertEqual(found[0][0], ())
        self.yes(found, [((), DEAR)], price=0)

    def test_defined_in_their_file(self):
        for function in (paper, is_paper):
            self.assertEqual(function.__module__, "quietstreets.papers")

    def up_to(self, town, offers, demand, least):
        """There are papers just for the prices up to the least one, or for all if that is None."""
        self.assertEqual(least_price(town, offers, demand), least)
        for price in range(100):
            found = paper(town, offers, demand, price)
            if least is None or price <= least:
                self.assertIs(type(found), list)
                self.yes(found, town=town, offers=offers, demand=demand, price=price)
            else:
                self.assertIsNone(found)

    def test_up_to_the_least_price(self):
        self.up_to(SQUARE, TWO, DEMAND, 2)
        self.up_to(SQUARE, TWO[:1], DEMAND, 3)
        self.up_to(SQUARE, TWO[:1], (99, 99, ()), 3)
        self.up_to(put(SQUARE, (2,), (TURN,)), TWO[2:], DEMAND, 1)
        nine = tuple((sign, 9) for sign, _ in TWO)
        self.up_to(SQUARE, nine, DEMAND, 9)
        self.up_to(SQUARE, nine[1:], DEMAND, 18)

    def test_no_signs_are_needed(self):
        self.up_to(put(SQUARE, (5,), ()), TWO, DEMAND, 0)
        self.up_to(put(SQUARE, (5,), (1,)), (), (0, 0, ()), 0)

    def test_no_good_signs(self):
        self.up_to(SQUARE, (), DEMAND, None)
        self.up_to(SQUARE, TWO, (1, 0, ()), None)
        self.up_to(SQUARE, TWO[1:2], DEMAND, None)
        self.up_to(SQUARE, TWO, (9, 9, ((1, 0),)), None)
        self.up_to(put(LINE, (5,), (0,)), ((("shut", 0, 1), 1),), (99, 99, ()), None)
        self.up_to(SQUARE, tuple((sign, 9) for sign in SQUARE_SIGNS[12:]), (1, 0, ()), None)

    def test_houses(self):
        town = (4, ((0, 1, 1), (0, 3, 5), (1, 3, 2)), (), (0, 3), (1,), (0,))
        offers = ((("shut", 0, 1), 1), (("shut", 1, 3), 4))
        self.up_to(town, offers, (2, 1, ()), 1)
        self.up_to(town, offers, (2, 0, ()), 4)
        self.up_to(town, offers, (1, 1, ()), None)

    def test_many_drives_one_behind_the_other(self):
        # Of five ways from 0 to 6, the four shorter ones are quiet and must be shut one by one.
        streets = tuple((0, b, 1) for b in range(1, 6)) + tuple((a, 6, a) for a in range(1, 6))
        town = (7, streets, (), (0, 6), (), (0, 1, 2, 3))
        offers = tuple((("shut", 0, b), 9) for b in range(1, 5))
        self.up_to(town, offers, (99, 99, ()), 36)
        self.up_to(town, offers[:3], (99, 99, ()), None)

    def test_a_new_list(self):
        first = paper(SQUARE, TWO, DEMAND, 2)
        expected = list(first)
        first.clear()
        self.assertEqual(paper(SQUARE, TWO, DEMAND, 2), expected)

    def test_order(self):
        for price in range(3):
            found = paper(SQUARE, TWO, DEMAND, price)
            self.assertEqual(found, sorted(found))
            self.assertEqual(len({bought for bought, _ in found}), len(found))

    def test_prices(self):
        for function, rest in ((paper, ()), (is_paper, ([((), DEAR)],))):
            for price in (-1, 100, 10 ** 30, True, False, None, "0", (0,), [0], *WRONG, Agreeable(), Touchy()):
                self.assertRaises(InvalidNumber, function, SQUARE, TWO, DEMAND, price, *rest)
            for price in (0, 99):
                function(SQUARE, TWO, DEMAND, price, *rest)

    def test_first_exception(self):
        right = [SQUARE, TWO, DEMAND, 2]
        errors = [InvalidTown, InvalidOffers, InvalidDemand, InvalidNumber]
        wrong = [SQUARE[:5], TWO[::-1], (100, 0, ()), 100]
        for function, rest in ((paper, ()), (is_paper, (GOOD,)), (is_paper, (None,))):
            for first in range(4):
                self.assertRaises(errors[first], function, *right[:first], *wrong[first:], *rest)
                self.assertRaises(errors[first], function, *right[:first], wrong[first], *right[first + 1:], *rest)


class IsPaper(Cases):
    def test_example(self):
        self.assertIs(is_paper(SQUARE, TWO, DEMAND, 3, [((), ("loud", (0, 1, 3)))]), False)

    def test_good(self):
        self.yes(GOOD)
        self.no(GOOD, price=3)
        self.no(GOOD, price=4)

    def test_at_lesser_prices(self):
        self.yes(GOOD, price=1)
        # Buying nothing is dear for 0, the rest are further entries.
        self.yes(GOOD, [((), DEAR), *GOOD[1:]], [((), DEAR)], price=0)
        self.no([((), DEAR)], [((), DEAR), *GOOD[1:]], price=1)

    def test_an_entry_taken(self):
        for at in range(5):
            self.no(GOOD[:at] + GOOD[at + 1:])
        self.no([], GOOD[:1], GOOD[1:], GOOD[1:3])

    def test_an_entry_taken_where_it_is_not_needed(self):
        # The way back first: the turn from 0 does not bar it.
        other = [((), ("loud", BACK)), ((SHUT,), DEAR), ((WAY,), ("loud", THERE)), ((SHUT, WAY), DEAR), ((TURN, WAY), DEAR)]
        self.yes(sorted(other))
        for entry in other:
            self.no(sorted(item for item in other if item != entry))

    def test_no_offers_that_bar_the_drive(self):
        self.yes([((), ("loud", THERE))], offers=TWO[2:])
        self.no([((), ("loud", BACK))], offers=TWO[2:])
        self.yes([((), ("loud", BACK)), ((WAY,), ("loud", THERE))], offers=TWO[2:])
        self.yes([((), ("loud", THERE))], [((), ("loud", BACK))], offers=(), price=99)
        self.no([((), DEAR)], [], offers=())

    def test_an_entry_twice(self):
        for at, (bought, reason) in enumerate(GOOD):
            self.no(GOOD[:at + 1] + GOOD[at:])
        # The same bought signs with two right reasons.
        self.yes([((), DEAR)], [((), ("loud", THERE))] + GOOD[1:], price=0)
        self.no([((), DEAR), ((), ("loud", THERE))] + GOOD[1:], price=0)
        self.no([((), ("loud", BACK)), ((), ("loud", THERE))] + sorted(GOOD[1:] + [((WAY,), ("loud", THERE))]))

    def test_out_of_order(self):
        self.no(GOOD[::-1], GOOD[1:] + GOOD[:1])
        for at in range(4):
            self.no(GOOD[:at] + [GOOD[at + 1], GOOD[at]] + GOOD[at + 2:])

    def reasons(self, at, right, wrong, **rest):
        for reason in right:
            self.yes(GOOD[:at] + [(GOOD[at][0], reason)] + GOOD[at + 1:], **rest)
        for reason in wrong:
            self.no(GOOD[:at] + [(GOOD[at][0], reason)] + GOOD[at + 1:], **rest)

    def test_dear(self):
        # Prices 0, 3, 4, 1 and 2 in this order.
        self.reasons(0, [], [DEAR])
        self.reasons(3, [], [DEAR])
        for at in (1, 2, 4):
            self.reasons(at, [DEAR], [("loud", THERE), ("loud", BACK), ("lack", ("through", 0, 3)), ("lack", ("line", 0))])
        self.reasons(4, [DEAR], [], price=2)
        self.reasons(4, [], [DEAR], price=3)
        self.reasons(3, [DEAR], [], price=1)

    def test_loud_drives(self):
        wrong = [
            (0, 2, 3), (3, 2, 0), BACK[::-1], (0, 1), (1, 3), (0,), (), (0, 3), (0, 1, 0), (0, 1, 3, 2), (3, 1),
            (0, 1, 3, 1, 0), (0, 1, 3, 2, 0, 1, 3), (0, 1, 4), (False, 1, 3), (0, True, 3), (0, 1, "3"), (0, 1, None),
            list(THERE), list(BACK), "013", None, 0, True, {0: 1}, (THERE,), (THERE, BACK), Agreeable(), Touchy(),
            *bent(BACK),
        ]
        self.reasons(3, [("loud", BACK)], [("loud", drive) for drive in wrong])

    def test_a_drive_that_is_barred(self):
        self.reasons(3, [], [("loud", THERE)])
        self.no(GOOD[:3] + [((TURN,), ("loud", THERE))] + GOOD[4:])

    def test_a_drive_that_is_not_best(self):
        # From 0 to 3 by way of 2 it is longer, and loud if the street 1 is quiet.
        town = put(SQUARE, (5,), (0, 1))
        self.yes(GOOD, town=town)
        for drive in ((0, 2, 3), (3, 2, 0), (0, 2, 3, 1), (0, 2)):
            self.no([((), ("loud", drive)), *GOOD[1:]], town=town)

    def test_a_drive_that_is_not_loud(self):
        town = put(SQUARE, (5,), (1,))
        self.no([((), ("loud", THERE))], GOOD, town=town, offers=())
        self.no([((), ("loud", (0, 2, 3)))], town=town, offers=())

    def test_a_drive_that_is_not_from_a_gate_to_another_gate(self):
        # From and to the house 1, and to the place 2, which is neither.
        town = put(SQUARE, (4,), (1,))
        self.yes(GOOD, town=town)
        for drive in ((0, 1), (1, 0), (3, 1), (2, 0, 1), (1, 0, 2), (0, 1, 3, 2, 0)):
            self.no([((), ("loud", drive)), *GOOD[1:]], town=town)
            self.no([((), ("loud", drive))], town=town, offers=())

    def test_lacks(self):
        demand = (1, 0, ((0, 1), (3, 1, 0)))
        there, back = ("through", 0, 3), ("through", 3, 0)
        entries = [((), ("loud", THERE)), ((SHUT,), ("lack", there)), ((TURN,), ("lack", there))]
        self.yes(entries, demand=demand, price=99)
        for what in (there, back, ("line", 0), ("line", 1)):
            self.yes([entries[0], ((SHUT,), ("lack", what)), entries[2]], demand=demand, price=99)
        wrong = (
            ("through", 0, 0), ("through", 3, 3), ("through", 0, 1), ("through", 0), ("through",), ("through", 0, 3, 0),
            ("line", 2), ("line", -1), ("line",), ("line", False), ("line", True), ("line", 0, 0), ("line", "0"),
            ("in", 0), ("in", 1), ("out", 1), ("through", False, 3), ("through", 0, None), ("Through", 0, 3), (0, 3),
            (), None, "line", 0, list(there), (there,), [there], ("through", [0], 3), (None, 0, 3), ("through", 0.0, 3),
            Agreeable(), Touchy(), *bent(there),
        )
        for what in wrong:
            self.no([entries[0], ((SHUT,), ("lack", what)), entries[2]], demand=demand, price=99)
        for what in (back, ("line", 0), ("line", 1)):
            self.no([entries[0], entries[1], ((TURN,), ("lack", what))], demand=demand, price=99)
        # Without any sign nothing is lacking.
        for what in (there, back, ("line", 0)):
            self.no([((), ("lack", what))], demand=demand, price=99)

    def test_lacks_of_houses(self):
        town = (4, ((0, 1, 1), (0, 3, 5), (1, 3, 2)), (), (0, 3), (1,), (0,))
        offers = ((("shut", 0, 1), 1), (("way", 0, 1), 1))
        for what in (("in", 1), ("out", 1)):
            entries = [((), ("loud", (0, 1, 3))), ((("shut", 0, 1),), ("lack", what)), ((("way", 0, 1),), ("lack", ("in", 1)))]
            self.yes(entries, town=town, offers=offers, demand=(9, 0, ()), price=99)
            self.no(entries, town=town, offers=offers, demand=(9, 1, ()), price=99)
        entries[2] = (entries[2][0], ("lack", ("out", 1)))
        self.no(entries, town=town, offers=offers, demand=(9, 0, ()), price=99)
        entries[2] = (entries[2][0], ("lack", ("in", 0)))
        self.no(entries, town=town, offers=offers, demand=(9, 0, ()), price=99)

    def test_reasons_of_other_kinds(self):
        wrong = [
            (), ("loud",), ("lack",), ("dear", 2), ("dear", ()), ("dear", DEAR), ("", BACK), ("Loud", BACK), ("quiet", BACK),
            (BACK,), (BACK, "loud"), BACK, ("loud", BACK, ()), ("loud", BACK, BACK), ["loud", BACK], ("loud", list(BACK)),
            "loud", "dear", None, True, 0, [], {}, {"loud": BACK}, (None, BACK), (["loud"], BACK), (b"loud", BACK),
            (("loud", BACK),), [("loud", BACK)], Agreeable(), Touchy(), *bent(("loud", BACK)), *WRONG,
        ]
        self.reasons(3, [("loud", BACK)], wrong)
        self.reasons(4, [DEAR], [["dear"], "dear", ("Dear",), ("dear", "dear"), (DEAR,), (None,), (Agreeable(),), *bent(DEAR)])

    def test_further_entries(self):
        further = [((WAY,), ("loud", THERE)), ((SHUT, TURN, WAY), DEAR), ((SHUT, WAY), DEAR)]
        self.yes(sorted(GOOD + further), sorted(GOOD + further[1:]), sorted(GOOD + further[1:2]))
        # With a drive as a reason, what is behind it must be there too.
        self.no(sorted(GOOD + further[:1]))
        self.yes(sorted(GOOD + [further[0], further[2]]))

    def test_further_entries_with_wrong_reasons(self):
        for entry in (
            ((WAY,), DEAR), ((WAY,), ("loud", BACK)), ((SHUT, WAY), ("loud", THERE)),
            ((SHUT, TURN, WAY), ("lack", ("through", 0, 3))), ((SHUT, WAY), None), ((SHUT, WAY), ()),
        ):
            self.no(GOOD[:3] + [entry] + GOOD[3:] if entry[0][0] == SHUT else GOOD + [entry])
            both = {bought: reason for bought, reason in GOOD}
            both[entry[0]] = entry[1]
            self.no([(bought, both[bought]) for bought in sorted(both)])

    def test_signs_that_are_not_bought(self):
        for bought in (
            (("way", 0, 1),), (SHUT, ("way", 3, 1)), (("shut", 0, 2),), (("turn", 3, 1, 0),), (("way", 0, 3),),
            (TURN, SHUT), (WAY, TURN), (WAY, WAY), [TURN, WAY], WAY, (None,), None, "way", 0, ("way",), ((),), TWO, TWO[:1],
            (list(WAY),), (("way", True, 0),), (("way", 1, False),), Agreeable(), Touchy(), *bent((TURN, WAY)),
        ):
            for at in range(6):
                self.no(GOOD[:at] + [(bought, DEAR)] + GOOD[at:])
            self.no(GOOD[:4] + [(bought, DEAR)])

    def test_wrong_items(self):
        for at, entry in enumerate(GOOD):
            for item in wrong_items(entry) + [entry + (0,), entry[:1], (), entry[::-1], Agreeable(), Touchy()]:
                self.no(GOOD[:at] + [item] + GOOD[at + 1:])

    def test_other_things(self):
        self.no(tuple(GOOD), [list(entry) for entry in GOOD], dict(GOOD), str(GOOD), [GOOD], (GOOD,), None, [])
        self.no(*WRONG, True, 0, (), Agreeable(), Touchy())
        for price in (0, 1, 99):
            self.no(None, [], (), tuple(GOOD), price=price)

    def test_no_modification(self):
        value = [((), ["loud", [0, 1, 3]])]
        self.no(value)
        self.assertEqual(value, [((), ["loud", [0, 1, 3]])])
        value = list(GOOD)
        self.yes(value)
        self.assertEqual(value, GOOD)
