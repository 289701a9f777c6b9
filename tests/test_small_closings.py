"""Many small towns: streets that can be made quiet, needless signs and closed streets, against a slow reckoning."""

import random
import unittest
from itertools import combinations

from quietstreets.closures import closing_growths, dearest_street
from quietstreets.errors import NotGood, NoTown
from quietstreets.needless import breaking_streets, needless_signs
from quietstreets.parting import closure_paper, fewest_closures, is_closure_paper, parting_closures
from quietstreets.quietable import can_be_quiet, greatest_quiet
from quietstreets.towns import closed

from reckoning import (
    Drives, Reckoning, bars_by_words, drives_without_repeats, further_signs, lacks_by_words, parts, small_towns,
)
from sample_towns import LOLLIPOP
from weighing import CASES

TOWNS = list(small_towns(31, 4)) + [(LOLLIPOP, Drives(LOLLIPOP[1], drives_without_repeats(LOLLIPOP[1])))] * 3


def cases(seed, many, most=3):
    """Each of the towns with so many choices of further signs, and the reckoning of them."""
    chance = random.Random(seed)
    for town, drives in TOWNS:
        for _ in range(many):
            signs = further_signs(chance, town, most)
            yield town, signs, Reckoning(town, signs, drives)


class Quietable(unittest.TestCase):
    def test_all_tuples_of_streets(self):
        several = 0
        for case in CASES:
            town, offers, demand = case.town, case.offers, case.demand
            used = [set(case.told[bought].used()) for bought in case.told if not case.lacks(bought, demand)]
            quiet = [
                streets for streets in parts(tuple(range(len(town[1]))))
                if any(not each & set(streets) for each in used)
            ]
            greatest = sorted(
                streets for streets in quiet if not any(set(streets) < set(other) for other in quiet)
            )
            with self.subTest(town=town, offers=offers, demand=demand):
                self.assertEqual(greatest_quiet(town, offers, demand), greatest)
                for streets in parts(tuple(range(len(town[1])))):
                    self.assertIs(can_be_quiet(town, offers, demand, streets), streets in quiet, streets)
                # Point [13]: if streets can be made quiet, some of them alone can.
                for streets in quiet:
                    for fewer in parts(streets):
                        self.assertIn(fewer, quiet)
            several += len(greatest) > 1
        self.assertGreater(several, 10)


class GoodSigns(unittest.TestCase):
    def test_needless_signs(self):
        seen = {"some": 0, "none": 0, "not good": 0}
        for case in CASES:
            arguments = (case.town, case.offers, case.demand)
            for bought in case.told:
                if case.is_good(bought, case.demand):
                    expected = [
                        sign for sign in bought
                        if case.is_good(tuple(other for other in bought if other != sign), case.demand)
                    ]
                    self.assertEqual(needless_signs(*arguments, bought), expected, (arguments, bought))
                    seen["some" if expected else "none"] += 1
                else:
                    self.assertRaises(NotGood, needless_signs, *arguments, bought)
                    self.assertRaises(NotGood, breaking_streets, *arguments, bought)
                    seen["not good"] += 1
        self.assertTrue(all(many > 20 for many in seen.values()), seen)

    def test_breaking_streets(self):
        seen = {"breaks": 0, "does not": 0, "no town": 0}
        kept = {}
        for case in CASES:
            for bought in case.good(case.demand)[:12]:
                expected = []
                for street in range(len(case.town[1])):
                    told = self.breaks(case, bought, street, kept)
                    seen[told] += 1
                    if told == "breaks":
                        expected.append(street)
                arguments = (case.town, case.offers, case.demand, bought)
                self.assertEqual(breaking_streets(*arguments), expected, arguments)
        self.assertTrue(all(many > 5 for many in seen.values()), seen)

    def breaks(self, case, bought, street, kept):
        """What point [15] says of good signs and a closed street, read literally."""
        try:
            left = closed(case.town, street)
        except NoTown:
            return "no town"
        if left[1] not in kept:
            kept[left[1]] = Drives(left[1], drives_without_repeats(left[1]))
        a, b, _ = case.town[1][street]
        ends = ((a, b), (b, a))
        signs = tuple(
            sign for sign in bought
            if not any(bars_by_words(sign, end) for end in ends) and not {sign[1:3], sign[2:]} & set(ends)
        )
        through, home, lines = case.demand
        lines = tuple(line for line in lines if not set(zip(line, line[1:])) & set(ends))
        now, before = Reckoning(left, signs, kept[left[1]]), Reckoning(left, (), kept[left[1]])
        good = not now.loud() and not lacks_by_words(now, before, signs, (through, home, lines))
        return "does not" if good else "breaks"


class Closing(unittest.TestCase):
    def test_closing_growths(self):
        seen = {"none": 0, "nothing": 0, "longer": 0, "cut off before": 0}
        for town, signs, told in cases(41, 10):
            sums = []
            for street in range(len(town[1])):
                around = Reckoning(town, signs, Drives(town[1], []))
                around.free = [row for row in told.free if street not in row[3]]
                expected = []
                for g in town[3]:
                    for h in town[3]:
                        if g != h:
                            usual, longer = told.least(g, h), around.least(g, h)
                            expected.append((g, h, None if longer is None else longer - usual))
                            seen["cut off before"] += usual is None
                self.assertEqual(closing_growths(town, signs, street), expected, (town, signs, street))
                sums.append(sum(999 if growth is None else growth for _, _, growth in expected))
                for _, _, growth in expected:
                    seen["none" if growth is None else "longer" if growth else "nothing"] += 1
            self.assertEqual(dearest_street(town, signs), sums.index(max(sums)), (town, signs))
        self.assertTrue(all(many > 20 for many in seen.values()), seen)


class Parting(unittest.TestCase):
    def question(self, seed, many):
        """Some pairs of places of each of the cases, with the sets of streets of all free drives between them."""
        chance = random.Random(seed)
        for town, signs, told in cases(seed, many):
            pairs = [(a, b) for a in range(town[0]) for b in range(town[0]) if a != b]
            for start, goal in chance.sample(pairs, 4):
                rows = [row for row in told.free if (row[0][0], row[0][-1]) == (start, goal)]
                yield chance, (town, signs, start, goal), [(row[0], row[3]) for row in rows]

    def test_closures(self):
        seen = {}
        for _, question, rows in self.question(51, 6):
            ways = {tuple(sorted(streets)) for _, streets in rows}
            indexes = range(len(question[0][1]))
            for many in range(len(indexes) + 1):
                expected = [
                    some for some in combinations(indexes, many) if all(set(some) & set(way) for way in ways)
                ]
                if expected:
                    break
            with self.subTest(question=question):
                self.assertEqual(fewest_closures(*question), many)
                self.assertEqual(parting_closures(*question), expected)
                for number in range(0, 15, 1 if many < 2 else 2):
                    found = closure_paper(*question, number)
                    self.assertEqual(found is None, number > many)
                    if found is not None:
                        self.assertIs(is_closure_paper(*question, number, found), True)
                        self.assertTrue(is_paper_by_words(question, rows, number, found))
            seen[many] = seen.get(many, 0) + 1
        self.assertTrue(all(seen.get(many, 0) > 5 for many in (0, 1, 2)), seen)

    def test_papers_by_words(self):
        # Papers of which some entries are taken, changed and added, judged by the words.
        seen = []
        for chance, question, rows in self.question(52, 5):
            for number in (0, 1, 2, 3):
                reasons = dict(closure_paper(*question, number) or [((), ("many",))])
                for value in changed(chance, question, rows, reasons):
                    expected = is_paper_by_words(question, rows, number, value)
                    self.assertIs(is_closure_paper(*question, number, value), expected, (question, number, value))
                    seen.append(expected)
                    if expected:
                        self.assertGreaterEqual(fewest_closures(*question), number)
        self.assertGreater(seen.count(True), 200)
        self.assertGreater(seen.count(False), 200)


def is_paper_by_words(question, rows, number, value):
    """What point [16] says of tuples of indexes and reasons of the two kinds, read literally."""
    closures = [closed_ones for closed_ones, _ in value]
    if closures != sorted(set(closures)) or () not in closures:
        return False
    ways = dict(rows)
    for closed_ones, reason in value:
        if reason[0] == "many" and len(closed_ones) < number:
            return False
        if reason[0] == "drive":
            if reason[1] not in ways or ways[reason[1]] & set(closed_ones):
                return False
            if not all(tuple(sorted({*closed_ones, street})) in closures for street in ways[reason[1]]):
                return False
    return True


def changed(chance, question, rows, reasons):
    """Some closure papers and no closure papers, made from one."""
    town, signs, start, goal = question
    everything = parts(tuple(range(len(town[1]))))
    others = drives_without_repeats(town[1])
    for _ in range(6):
        some = dict(reasons)
        for _ in range(chance.choice((0, 1, 1, 2))):
            closures = chance.choice(everything if chance.random() < 0.5 else list(some))
            right = [drive for drive, streets in rows if not streets & set(closures)]
            drive = chance.choice(right if right and chance.random() < 0.7 else others)
            some[closures] = ("many",) if chance.random() < 0.5 else ("drive", drive)
        if chance.random() < 0.3:
            del some[chance.choice(list(some))]
        value = [(closures, some[closures]) for closures in sorted(some)]
        if chance.random() < 0.1:
            value.insert(0, value[-1] if value else ((), ("many",)))
        yield value
