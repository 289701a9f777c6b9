"""Many small towns: lengths, best drives, loud ones and lacks against a slow reckoning by all drives up to a length."""

import random
import unittest

from quietstreets.best import best_drives, count_best
from quietstreets.demands import growths, home_growths, is_demand, lacks
from quietstreets.drives import is_free
from quietstreets.lengths import is_bound, least_length, table
from quietstreets.quiet import is_quiet, loud_drives, used_streets

from sample_towns import LOLLIPOP
from reckoning import (
    KITE, LADLE, SMALL, Drives, Reckoning, all_signs, bars_by_words, drives_up_to, drives_without_repeats,
    further_signs, growths_by_words, home_growths_by_words, lacks_by_words, small_towns,
)

# Between the gates 0 and 2 of this town a drive must go round and comes to place 1 again.
TRIANGLE = (
    5,
    ((0, 1, 1), (1, 2, 1), (1, 3, 1), (1, 4, 1), (3, 4, 1)),
    (("turn", 0, 1, 2), ("turn", 2, 1, 0)),
    (0, 2),
    (3, 4),
    (4,),
)
TOWNS = list(small_towns(11, 4, SMALL + ((4, KITE), (5, LADLE))))
for town_again in (LOLLIPOP, TRIANGLE):
    TOWNS += [(town_again, Drives(town_again[1], drives_without_repeats(town_again[1])))] * 3


def cases(seed, many, most=4):
    """Each of the towns with so many choices of further signs, and the reckoning of them."""
    chance = random.Random(seed)
    for town, drives in TOWNS:
        for _ in range(many):
            signs = further_signs(chance, town, most)
            yield town, signs, Reckoning(town, signs, drives)


def pairs(town):
    """All pairs of different places."""
    return [(a, b) for a in range(town[0]) for b in range(town[0]) if a != b]


class TheReckoningItself(unittest.TestCase):
    def test_no_shorter_drive_goes_by_a_direction_twice(self):
        # All drives up to a length at which each of them goes by some
        # direction twice: the same least lengths as without these.
        chance = random.Random(3)
        for _, streets in SMALL:
            most = 2 * sum(length for _, _, length in streets)
            everything = Drives(streets, drives_up_to(streets, most))
            without = Drives(streets, drives_without_repeats(streets))
            signs = all_signs(streets)
            for _ in range(12):
                town = (6, streets, (), (0, 1), (), ())
                some = tuple(sorted(chance.sample(signs, chance.randint(0, 5))))
                all_of_them, few = Reckoning(town, some, everything), Reckoning(town, some, without)
                for start in range(6):
                    self.assertEqual(all_of_them.table(start), few.table(start))
                    for goal in range(6):
                        if goal != start:
                            self.assertEqual(all_of_them.best(start, goal), few.best(start, goal))


class Lengths(unittest.TestCase):
    def test_up_to_a_length(self):
        chance = random.Random(5)
        seen = set()
        for places, streets in SMALL:
            drives = Drives(streets, drives_up_to(streets, 9))
            for _ in range(40):
                signs = tuple(sorted(chance.sample(all_signs(streets), chance.randint(0, 5))))
                town = (places, streets, (), streets[0][:2], (), ())
                told = Reckoning(town, signs, drives)
                for start, goal in pairs(town):
                    found = least_length(town, signs, start, goal)
                    expected = told.least(start, goal)
                    self.assertEqual(found if found is None or found <= 9 else None, expected)
                    if expected is not None:
                        self.assertEqual(best_drives(town, signs, start, goal), told.best(start, goal))
                    seen.add(expected)
        self.assertLessEqual({None, 1, 2, 3, 4, 5, 6}, seen)

    def test_least_lengths_and_best_drives(self):
        several = again = none = 0
        for town, signs, told in cases(1, 6):
            for start, goal in pairs(town):
                expected = told.best(start, goal)
                with self.subTest(town=town, signs=signs, start=start, goal=goal):
                    self.assertEqual(least_length(town, signs, start, goal), told.least(start, goal))
                    self.assertEqual(best_drives(town, signs, start, goal), expected)
                    self.assertEqual(count_best(town, signs, start, goal), len(expected))
                several += len(expected) > 1
                again += any(len(set(drive)) < len(drive) for drive in expected)
                none += not expected
        self.assertTrue(several > 20 and again > 20 and none > 20, (several, again, none))

    def test_tables_and_bounds(self):
        for town, signs, told in cases(2, 6):
            for start in range(town[0]):
                expected = told.table(start)
                self.assertEqual(table(town, signs, start), expected)
                self.assertIs(is_bound(town, signs, start, expected), True)
                # A raised number breaks the bound, as some drive is as short as the table says.
                for at, (a, b, length) in enumerate(expected):
                    self.assertIs(
                        is_bound(town, signs, start, [*expected[:at], (a, b, length + 1), *expected[at + 1:]]), False
                    )
                    self.assertIs(is_bound(town, signs, start, expected[:at] + expected[at + 1:]), False)

    def test_bounds_by_words(self):
        # Random lists, judged by the words of the interface.
        chance = random.Random(8)
        seen = []
        for town, signs, told in cases(4, 5):
            barring = town[2] + signs
            streets = town[1]
            for start in range(town[0]):
                value = [
                    (a, b, number - chance.choice((0, 0, 0, 1, 2)))
                    for a, b, number in told.table(start)
                    if chance.random() < 0.97
                ]
                found = is_bound(town, signs, start, value)
                self.assertIs(found, is_bound_by_words(streets, barring, start, value), (town, signs, start, value))
                seen.append(found)
                if found:
                    numbers = {(a, b): number for a, b, number in value}
                    for a, b, least in told.table(start):
                        self.assertLessEqual(numbers[(a, b)], least)
        self.assertGreater(seen.count(True), 50)
        self.assertGreater(seen.count(False), 50)


def is_bound_by_words(streets, barring, start, value):
    """What the interface says of is_bound, for an ascending list of directions and integers."""
    numbers = {(a, b): number for a, b, number in value}
    lengths = {ends: length for a, b, length in streets for ends in ((a, b), (b, a))}

    def is_there(ends, most):
        return ends in numbers and numbers[ends] <= most

    for a, b in lengths:
        if a == start and not any(bars_by_words(sign, (a, b)) for sign in barring) and not is_there((a, b), lengths[(a, b)]):
            return False
        for behind in lengths:
            # Behind the direction (a, b), whether or not that one is barred itself.
            if (a, b) in numbers and behind[0] == b and behind[1] != a:
                turn = ("turn", a, b, behind[1])
                barred = turn in barring or any(bars_by_words(sign, behind) for sign in barring)
                if not barred and not is_there(behind, numbers[(a, b)] + lengths[behind]):
                    return False
    return True


class Quiet(unittest.TestCase):
    def test_loud_drives_and_used_streets(self):
        seen = []
        for town, signs, told in cases(6, 10):
            with self.subTest(town=town, signs=signs):
                expected = told.loud()
                self.assertEqual(loud_drives(town, signs), expected)
                self.assertIs(is_quiet(town, signs), not expected)
                self.assertEqual(used_streets(town, signs), told.used())
                self.assertIs(is_quiet(town, signs), not set(told.used()) & set(town[5]))
                seen.append(bool(expected))
        self.assertGreater(seen.count(True), 50)
        self.assertGreater(seen.count(False), 50)


class Demands(unittest.TestCase):
    def test_growths_and_lacks(self):
        chance = random.Random(9)
        seen = set()
        before = {}
        for town, drives in TOWNS:
            before[town] = Reckoning(town, (), drives)
        for town, signs, told in cases(7, 10):
            self.assertEqual(growths(town, signs), growths_by_words(told, before[town]))
            self.assertEqual(home_growths(town, signs), home_growths_by_words(told, before[town]))
            for _ in range(4):
                lines = chance.sample(before[town].free, chance.randint(0, 3))
                demand = (chance.randint(0, 4), chance.randint(0, 3), tuple(sorted(line[0] for line in lines)))
                self.assertIs(is_demand(town, demand), True)
                expected = lacks_by_words(told, before[town], signs, demand)
                self.assertEqual(lacks(town, signs, demand), expected)
                seen.update(what[0] for what in expected)
        self.assertEqual(seen, {"through", "in", "out", "line"})


class MoreSigns(unittest.TestCase):
    def test_what_more_signs_do(self):
        chance = random.Random(10)
        for town, signs, _ in cases(12, 4, most=3):
            more = tuple(sorted(set(signs) | set(further_signs(chance, town, 3))))
            for start, goal in pairs(town):
                least, later = least_length(town, signs, start, goal), least_length(town, more, start, goal)
                self.assertTrue(later is None or least is not None and later >= least)
                drives = best_drives(town, signs, start, goal)
                left = [drive for drive in drives if is_free(town, more, drive)]
                if left:
                    self.assertEqual(best_drives(town, more, start, goal), left)
            demand = (chance.randint(0, 3), chance.randint(0, 2), ())
            found = lacks(town, more, demand)
            self.assertEqual([what for what in lacks(town, signs, demand) if what not in found], [])
            # A loud best drive stays one, unless one of the further signs bars it.
            later = loud_drives(town, more)
            for drive in loud_drives(town, signs):
                self.assertIs(drive in later, is_free(town, more, drive))
