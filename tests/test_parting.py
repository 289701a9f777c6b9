"""fewest_closures, parting_closures, closure_paper and is_closure_paper."""

import unittest

from quietstreets.errors import InvalidNumber, InvalidPlace, InvalidSigns, InvalidTown
from quietstreets.parting import closure_paper, fewest_closures, is_closure_paper, parting_closures

from reckoning import parts
from sample_towns import (
    GRID, LINE, LOLLIPOP, SQUARE, SQUARE_SIGNS, TWO, WRONG, Agreeable, Touchy, bent, put, spoiled, wrong_items,
)

SHUT, TURN, WAY = [sign for sign, _ in TWO]
MANY = ("many",)
RIGHT, LEFT = (0, 1, 3), (0, 2, 3)

# The paper for 2 from 0 to 3: the one way, and then the other one, without each street of the former.
GOOD = [
    ((), ("drive", RIGHT)),
    ((0,), ("drive", LEFT)),
    ((0, 1), MANY),
    ((0, 3), MANY),
    ((1, 2), MANY),
    ((2,), ("drive", LEFT)),
    ((2, 3), MANY),
]

# Between 0 and 1 seven ways of two streets each.
SEVEN = (9, tuple((0, b, 1) for b in range(2, 9)) + tuple((1, b, 1) for b in range(2, 9)), (), (0, 1), (), ())
# Two ways from 0 to 1 and three from 1 to 2, one of them straight on.
LEAF = (6, ((0, 1, 1), (0, 3, 1), (1, 2, 1), (1, 3, 1), (1, 4, 1), (1, 5, 1), (2, 4, 1), (2, 5, 1)), (), (0, 2), (), ())


class Closures(unittest.TestCase):
    def check(self, town, signs, start, goal, *expected):
        with self.subTest(town=town, signs=signs, start=start, goal=goal):
            self.assertEqual(parting_closures(town, signs, start, goal), list(expected))
            self.assertEqual(fewest_closures(town, signs, start, goal), len(expected[0]))

    def test_examples(self):
        self.assertEqual(fewest_closures(SQUARE, (), 0, 3), 2)
        self.assertEqual(parting_closures(SQUARE, (("shut", 0, 1),), 0, 3), [(1,), (3,)])

    def test_defined_in_their_file(self):
        for function in (fewest_closures, parting_closures, closure_paper, is_closure_paper):
            self.assertEqual(function.__module__, "quietstreets.parting")

    def test_square(self):
        self.check(SQUARE, (), 0, 3, (0, 1), (0, 3), (1, 2), (2, 3))
        self.check(SQUARE, (), 3, 0, (0, 1), (0, 3), (1, 2), (2, 3))
        # The street 0, and one of the others.
        self.check(SQUARE, (), 0, 1, (0, 1), (0, 2), (0, 3))
        self.check(SQUARE, (), 1, 0, (0, 1), (0, 2), (0, 3))

    def test_one(self):
        self.check(LINE, (), 0, 1, (0,))
        self.check(LINE, (), 1, 0, (0,))
        self.check((4, ((0, 1, 1), (1, 2, 2), (2, 3, 3)), (), (0, 2), (), ()), (), 0, 3, (0,), (1,), (2,))

    def test_several_ways(self):
        self.check(LEAF, (), 0, 1, (0, 1), (0, 3))
        self.check(LEAF, (), 0, 2, (0, 1), (0, 3))
        expected = [(2, a, b) for a in (4, 6) for b in (5, 7)]
        self.check(LEAF, (), 1, 2, *[tuple(sorted(closed)) for closed in expected])
        self.check(LEAF, (("way", 0, 3),), 0, 2, (0,))
        self.check(LEAF, (("turn", 0, 1, 4), ("turn", 3, 1, 4)), 0, 2, (0, 1), (0, 3), (2, 5), (2, 7))

    def test_most_ways(self):
        expected = [tuple(sorted(a if choice >> a & 1 else a + 7 for a in range(7))) for choice in range(128)]
        self.check(SEVEN, (), 0, 1, *sorted(expected))

    def test_no_closures_at_all(self):
        # Places that no free drive joins.
        self.check(SQUARE, (("shut", 0, 1), ("shut", 0, 2)), 0, 3, ())
        self.check(SQUARE, (("way", 0, 1), ("way", 0, 2)), 0, 3, ())
        self.check(SQUARE, (("way", 0, 1), ("way", 0, 2)), 3, 0, (0, 1), (0, 3), (1, 2), (2, 3))
        self.check(LINE, (("way", 0, 1),), 0, 1, ())
        self.check(LINE, (("way", 0, 1),), 1, 0, (0,))
        # A place without streets.
        self.check(put(SQUARE, (0,), 5), (), 0, 4, ())
        self.check(put(SQUARE, (0,), 5), (), 4, 0, ())

    def test_turns(self):
        # The turn leaves one way from 0 to 3, and both from 3 to 0.
        self.check(SQUARE, (TURN,), 0, 3, (1,), (3,))
        self.check(SQUARE, (TURN,), 3, 0, (0, 1), (0, 3), (1, 2), (2, 3))
        self.check(SQUARE, (TURN, ("turn", 0, 2, 3)), 0, 3, ())
        # From 0 to 1 and on from 1 to 3 there are ways, but not from 0 to 3.
        self.check(SQUARE, (TURN, ("turn", 0, 2, 3)), 0, 1, (0,))
        self.check(SQUARE, (TURN, ("turn", 0, 2, 3)), 1, 3, (2,))

    def test_drives_that_come_to_a_place_again(self):
        # From 0 to 5 all go round by 3 and 4, through the street 1-2 twice; from 0 to 3 either way.
        self.check(LOLLIPOP, (), 0, 5, (0,), (1,), (2,), (3,), (4,), (5,))
        self.check(LOLLIPOP, (), 0, 3, (0,), (1,))
        self.check(LOLLIPOP, (("turn", 2, 3, 4),), 0, 5, (0,), (1,), (2,), (3,), (4,), (5,))
        self.check(LOLLIPOP, (("turn", 2, 3, 4), ("turn", 2, 4, 3)), 0, 5, ())

    def test_standing_signs(self):
        town = put(SQUARE, (2,), (TURN,))
        self.check(town, (), 0, 3, (1,), (3,))
        self.check(town, (("way", 0, 2),), 0, 3, ())
        self.check(put(SQUARE, (2,), (SHUT,)), (), 0, 3, (1,), (3,))

    def test_lengths_quiet_streets_gates_and_houses_do_not_matter(self):
        for town in (
            put(SQUARE, (1, 0), (0, 1, 99)), put(SQUARE, (5,), (0, 1, 2, 3)), put(SQUARE, (3,), (1, 2)),
            put(SQUARE, (4,), (1, 2)),
        ):
            self.check(town, (), 0, 3, (0, 1), (0, 3), (1, 2), (2, 3))

    def test_new_lists(self):
        first = parting_closures(SQUARE, (SHUT,), 0, 3)
        self.assertIs(type(first), list)
        first.clear()
        self.check(SQUARE, (SHUT,), 0, 3, (1,), (3,))
        first = closure_paper(SQUARE, (), 0, 3, 2)
        self.assertIs(type(first), list)
        first.clear()
        self.assertNotEqual(closure_paper(SQUARE, (), 0, 3, 2), [])


class ClosurePaper(unittest.TestCase):
    def test_example(self):
        found = closure_paper(SQUARE, (), 0, 3, 0)
        self.assertEqual(found[0][0], ())
        for value in (found, [((), ("many",))]):
            self.assertIs(is_closure_paper(SQUARE, (), 0, 3, 0, value), True)

    def up_to(self, town, signs, start, goal, fewest):
        """There are closure papers just for the numbers up to the fewest closures."""
        self.assertEqual(fewest_closures(town, signs, start, goal), fewest)
        for number in range(15):
            with self.subTest(town=town, signs=signs, start=start, goal=goal, number=number):
                found = closure_paper(town, signs, start, goal, number)
                if number > fewest:
                    self.assertIsNone(found)
                else:
                    self.assertIs(type(found), list)
                    self.assertEqual(found, sorted(found))
                    self.assertEqual(len({closed for closed, _ in found}), len(found))
                    for least in range(15):
                        right = least <= number and all(len(closed) >= least for closed, reason in found if reason == MANY)
                        self.assertIs(is_closure_paper(town, signs, start, goal, least, found), right)

    def test_up_to_the_fewest_closures(self):
        self.up_to(SQUARE, (), 0, 3, 2)
        self.up_to(SQUARE, (SHUT,), 0, 3, 1)
        self.up_to(SQUARE, (TURN,), 3, 0, 2)
        self.up_to(SQUARE, (("shut", 0, 1), ("shut", 0, 2)), 0, 3, 0)
        self.up_to(LINE, (), 0, 1, 1)
        self.up_to(LINE, (("way", 0, 1),), 0, 1, 0)
        self.up_to(LEAF, (), 0, 2, 2)
        self.up_to(LEAF, (), 1, 2, 3)
        self.up_to(LOLLIPOP, (), 0, 5, 1)
        self.up_to(SEVEN, (), 0, 1, 7)
        self.up_to(put(SQUARE, (0,), 5), (), 0, 4, 0)

    def test_grid(self):
        for start, goal in ((0, 8), (8, 0), (2, 6), (1, 7), (4, 0)):
            self.up_to(GRID, (), start, goal, fewest_closures(GRID, (), start, goal))

    def test_numbers(self):
        for number in (-1, 15, 10 ** 30, True, False, None, "0", (0,), [0], *WRONG, Agreeable(), Touchy()):
            with self.subTest(number=type(number)):
                self.assertRaises(InvalidNumber, closure_paper, SQUARE, (), 0, 3, number)
                self.assertRaises(InvalidNumber, is_closure_paper, SQUARE, (), 0, 3, number, [((), MANY)])
        self.assertIsNone(closure_paper(SQUARE, (), 0, 3, 14))
        self.assertIs(is_closure_paper(SQUARE, (), 0, 3, 14, GOOD), False)
        self.assertIs(is_closure_paper(SQUARE, (), 0, 3, 0, [((), MANY)]), True)

    def test_places(self):
        for function, rest in (
            (fewest_closures, ()), (parting_closures, ()), (closure_paper, (2,)), (is_closure_paper, (2, GOOD)),
        ):
            for place in (4, -1, True, False, None, "0", (0,), [0], 10 ** 30, *WRONG, Agreeable(), Touchy()):
                self.assertRaises(InvalidPlace, function, SQUARE, (), place, 3, *rest)
                self.assertRaises(InvalidPlace, function, SQUARE, (), 0, place, *rest)
            for place in range(4):
                self.assertRaises(InvalidPlace, function, SQUARE, (), place, place, *rest)

    def test_signs(self):
        for function, rest in (
            (fewest_closures, ()), (parting_closures, ()), (closure_paper, (2,)), (is_closure_paper, (2, GOOD)),
        ):
            for signs in (
                (("way", 0, 3),), (WAY, SHUT), (SHUT, SHUT), [SHUT], SHUT, None, SQUARE_SIGNS[:13], Agreeable(), Touchy(),
                *WRONG, *spoiled((SHUT, WAY)), *bent((SHUT, WAY)),
            ):
                self.assertRaises(InvalidSigns, function, SQUARE, signs, 0, 3, *rest)
            self.assertRaises(InvalidSigns, function, put(SQUARE, (2,), (WAY,)), (WAY,), 0, 3, *rest)
            function(SQUARE, SQUARE_SIGNS[:12], 0, 3, *rest)

    def test_first_exception(self):
        right = [SQUARE, (), 0, 3, 2]
        errors = [InvalidTown, InvalidSigns, InvalidPlace, InvalidPlace, InvalidNumber]
        wrong = [SQUARE[:5], (("way", 0, 3),), 4, 0, 15]
        for function, count, rest in (
            (fewest_closures, 4, ()), (parting_closures, 4, ()), (closure_paper, 5, ()), (is_closure_paper, 5, (GOOD,)),
            (is_closure_paper, 5, (None,)),
        ):
            for first in range(count):
                self.assertRaises(errors[first], function, *right[:first], *wrong[first:count], *rest)
                self.assertRaises(errors[first], function, *right[:first], wrong[first], *right[first + 1:count], *rest)


class IsClosurePaper(unittest.TestCase):
    def yes(self, *values, town=SQUARE, signs=(), start=0, goal=3, number=2):
        for value in values:
            with self.subTest(value=value):
                self.assertIs(is_closure_paper(town, signs, start, goal, number, value), True)

    def no(self, *values, town=SQUARE, signs=(), start=0, goal=3, number=2):
        for value in values:
            with self.subTest(value=value):
                self.assertIs(is_closure_paper(town, signs, start, goal, number, value), False)

    def test_example(self):
        self.assertIs(is_closure_paper(SQUARE, (), 0, 3, 1, [((), ("drive", (0, 1, 3)))]), False)

    def test_good(self):
        self.yes(GOOD)
        self.no(GOOD, number=3)
        self.no(GOOD, number=14)

    def test_for_lesser_numbers(self):
        self.yes(GOOD, number=1)
        self.yes(GOOD, [((), MANY)] + GOOD[1:], [((), MANY)], number=0)
        self.yes([GOOD[0], ((0,), MANY), ((2,), MANY)], [GOOD[0], ((0,), MANY)] + GOOD[4:], number=1)
        self.no([((), MANY)], [((), MANY)] + GOOD[1:], number=1)
        self.no([GOOD[0], ((0,), MANY), ((2,), MANY)])

    def test_an_entry_taken(self):
        for at in range(7):
            self.no(GOOD[:at] + GOOD[at + 1:])
        self.no([], GOOD[:1], GOOD[1:], GOOD[2:5])

    def test_the_first_entry_taken(self):
        # Further entries alone are right, but the tuple without any index is not there.
        self.no(GOOD[2:5], GOOD[1:4], [((0, 1, 2, 3), MANY)], [])
        self.no([], [((0,), MANY)], number=0)

    def test_an_entry_twice(self):
        for at in range(7):
            self.no(GOOD[:at + 1] + GOOD[at:])
        # The same closures with two right reasons.
        self.yes(GOOD, GOOD[:1] + [((0,), MANY)] + GOOD[2:], number=1)
        self.no(GOOD[:2] + [((0,), MANY)] + GOOD[2:], number=1)
        self.no([((), ("drive", RIGHT)), ((), ("drive", LEFT)), ((0,), MANY), ((1,), MANY), ((2,), MANY), ((3,), MANY)], number=1)

    def test_out_of_order(self):
        self.no(GOOD[::-1], GOOD[1:] + GOOD[:1])
        for at in range(6):
            self.no(GOOD[:at] + [GOOD[at + 1], GOOD[at]] + GOOD[at + 2:])

    def with_reason(self, at, reason):
        return GOOD[:at] + [(GOOD[at][0], reason)] + GOOD[at + 1:]

    def test_another_kind(self):
        for at in (0, 1, 5):
            self.no(self.with_reason(at, MANY))
        for at in (2, 3, 4, 6):
            for drive in (RIGHT, LEFT):
                self.no(self.with_reason(at, ("drive", drive)))

    def test_drives(self):
        wrong = [
            # Through the closed street 0, or barred, or between other places, or no drives.
            RIGHT, (0, 1), (0, 2), (2, 3), LEFT[::-1], RIGHT[::-1], (0, 2, 3, 1), (2, 0, 1, 3), (0, 2, 3, 1, 0, 2),
            (0, 2, 0, 2, 3), (0, 2, 3, 2, 3), (0, 2, 3, 3), (0, 0, 2, 3), (0, 2, 3, 1, 3), (0, 3), (0, 2, 1, 3), (3,), (), (0,),
            (0, 2, 4, 3), (0, 2, 9), (False, 2, 3), (0, "2", 3), (0, 2, None), ("0", "2", "3"), list(LEFT), "023", None, 0, True,
            {0: 2, 2: 3}, (LEFT,), (RIGHT, LEFT), (0, 1, 3, 2, 0, 2, 3), Agreeable(), Touchy(), *bent(LEFT), *spoiled(LEFT), *WRONG,
        ]
        for drive in wrong:
            self.no(self.with_reason(1, ("drive", drive)))
        for drive in wrong[1:]:
            self.no(self.with_reason(0, ("drive", drive)))

    def test_a_drive_that_is_barred(self):
        # Under the sign one way is left, which the paper for 1 needs.
        left = [((), ("drive", LEFT)), ((1,), MANY), ((3,), MANY)]
        right = [((), ("drive", RIGHT)), ((0,), MANY), ((2,), MANY)]
        self.yes(left, right, number=1)
        for sign in (SHUT, TURN, ("way", 0, 1), ("way", 1, 3), ("shut", 1, 3)):
            self.yes(left, signs=(sign,), number=1)
            self.no(right, signs=(sign,), number=1)
            self.yes(left, town=put(SQUARE, (2,), (sign,)), number=1)
            self.no(right, town=put(SQUARE, (2,), (sign,)), number=1)
        for sign in (WAY, ("turn", 3, 1, 0), ("turn", 1, 3, 2)):
            self.yes(left, right, signs=(sign,), number=1)

    def test_drives_that_are_not_best(self):
        # Once more round the square, from 0 to 3 and then by 2, 0 and 1 to 3 again; through all four streets.
        around = (0, 1, 3, 2, 0, 1, 3)
        entries = [((), ("drive", around)), ((0,), MANY), ((1,), MANY), ((2,), MANY), ((3,), MANY)]
        self.yes(entries, number=1)
        for at in range(5):
            self.no(entries[:at] + entries[at + 1:], number=1)
        self.no(entries)
        self.yes([((), ("drive", LEFT))] + [((1,), MANY), ((3,), MANY)], number=1)
        longer = put(SQUARE, (1, 1), (0, 2, 99))
        other = {(): ("drive", LEFT), (1,): ("drive", RIGHT), (3,): ("drive", RIGHT)}
        for closed in ((0, 1), (0, 3), (1, 2), (2, 3)):
            other[closed] = MANY
        self.yes(GOOD, sorted(other.items()), town=longer)

    def test_drives_that_come_to_a_street_again(self):
        drive = (0, 1, 2, 3, 4, 2, 1, 5)
        entries = [((), ("drive", drive))] + [((street,), MANY) for street in range(6)]
        self.yes(entries, town=LOLLIPOP, start=0, goal=5, number=1)
        self.yes([((), ("drive", (0, 1, 2, 4, 3, 2, 1, 5)))] + entries[1:], town=LOLLIPOP, start=0, goal=5, number=1)
        # Twice round behind place 2.
        twice = (0, 1, 2, 3, 4, 2, 3, 4, 2, 1, 5)
        self.yes([((), ("drive", twice))] + entries[1:], town=LOLLIPOP, start=0, goal=5, number=1)
        for at in range(7):
            self.no(entries[:at] + entries[at + 1:], town=LOLLIPOP, start=0, goal=5, number=1)
        self.no(entries, town=LOLLIPOP, start=5, goal=0, number=1)
        for other in ((0, 1, 5), (0, 1, 2, 1, 5), (0, 1, 2, 3, 4, 2, 3)):
            self.no([((), ("drive", other))] + entries[1:], town=LOLLIPOP, start=0, goal=5, number=1)

    def test_indexes_that_are_none(self):
        for closed in (
            (4,), (0, 4), (-1,), (-1, 0), (1, 0), (0, 0), (0, 1, 1), (True,), (False, 1), (0, True), ("0",), (None,), ((0,),),
            [0], [0, 1], {0}, 0, None, True, "01", range(2), 10 ** 30, (10 ** 30,), Agreeable(), Touchy(), *bent((0, 1)),
            *spoiled((0, 1)), *WRONG,
        ):
            for at in range(8):
                self.no(GOOD[:at] + [(closed, MANY)] + GOOD[at:])
            self.no(GOOD[:2] + [(closed, MANY)] + GOOD[3:])
            self.no([(closed, MANY)], [((), MANY), (closed, MANY)], number=0)

    def test_further_entries(self):
        further = [((0, 1, 2), MANY), ((0, 1, 2, 3), MANY), ((0, 2), ("drive", LEFT)), ((0, 2), MANY), ((1, 3), MANY)]
        for some in parts(further):
            value = sorted(GOOD + list(some))
            if further[2] in some:
                # With a drive as a reason, what is behind it must be there too.
                self.no(value)
            else:
                self.yes(value)
        behind = [((0, 1, 2), MANY), ((0, 2), ("drive", LEFT)), ((0, 2, 3), MANY)]
        self.yes(sorted(GOOD + behind))
        self.no(sorted(GOOD + behind[:2]), sorted(GOOD + behind[1:]))
        self.yes(sorted(GOOD + [((1,), ("drive", RIGHT))]))

    def test_further_entries_with_wrong_reasons(self):
        for entry in (
            ((1,), MANY), ((1,), ("drive", LEFT)), ((3,), None), ((3,), ()), ((0, 1, 2), ("drive", LEFT)),
            ((0, 1, 2, 3), ("drive", RIGHT)), ((1, 3), ("drive", (3, 1, 0))), ((0, 2), ("Many",)), ((0, 2), ("many", 2)),
        ):
            others = dict(GOOD)
            others[entry[0]] = entry[1]
            self.no([(closed, others[closed]) for closed in sorted(others)])

    def test_reasons_of_other_kinds(self):
        wrong = [
            (), ("drive",), ("many", 2), ("many", ()), ("many", MANY), ("", LEFT), ("Drive", LEFT), ("loud", LEFT), (LEFT,), LEFT,
            ("many", LEFT), (LEFT, "drive"), ("drive", LEFT, ()), ("drive", LEFT, LEFT), ["drive", LEFT], ("drive", list(LEFT)),
            "drive", "many", ("dear",), ("lack", ("line", 0)), None, True, 0, [], {}, {"drive": LEFT}, (None, LEFT), (b"drive", LEFT),
            (["drive"], LEFT), (("drive", LEFT),), [("drive", LEFT)], Agreeable(), Touchy(), *bent(("drive", LEFT)), *WRONG,
        ]
        for reason in wrong:
            self.no(self.with_reason(1, reason), self.with_reason(2, reason))
        for reason in (["many"], "many", ("Many",), ("many", "many"), (MANY,), (None,), ("dear",), (b"many",), *bent(MANY)):
            self.no(self.with_reason(2, reason), self.with_reason(6, reason))

    def test_wrong_items(self):
        for at, entry in enumerate(GOOD):
            for item in wrong_items(entry) + [entry + (0,), entry[:1], (), entry[::-1], Agreeable(), Touchy()]:
                self.no(GOOD[:at] + [item] + GOOD[at + 1:])

    def test_other_things(self):
        self.no(tuple(GOOD), [list(entry) for entry in GOOD], dict(GOOD), str(GOOD), [GOOD], (GOOD,), None, [])
        self.no(*WRONG, True, 0, (), Agreeable(), Touchy())
        for number in (0, 1, 14):
            self.no(None, [], (), tuple(GOOD), [()], [None], number=number)

    def test_places_that_no_free_drive_joins(self):
        signs = (("shut", 0, 1), ("shut", 0, 2))
        self.yes([((), MANY)], [((), MANY), ((0, 1), MANY)], signs=signs, number=0)
        for drive in (RIGHT, LEFT, (3, 1), (0, 3)):
            self.no([((), ("drive", drive))], GOOD, signs=signs, number=0)
        self.no([((), MANY)], GOOD, signs=signs, number=1)

    def test_no_modification(self):
        value = [((), ["drive", [0, 1, 3]])]
        self.no(value)
        self.assertEqual(value, [((), ["drive", [0, 1, 3]])])
        value = list(GOOD)
        self.yes(value)
        self.assertEqual(value, GOOD)
