"""Many small towns: shares against all best drives gone through one by one."""

import random
import unittest
from fractions import Fraction

from quietstreets.shares import moved_shares, shares

from reckoning import KITE, LADLE, SMALL, Drives, Reckoning, drives_without_repeats, further_signs, small_towns
from sample_towns import LOLLIPOP

TOWNS = list(small_towns(91, 5, SMALL + ((4, KITE), (5, LADLE))))
TOWNS += [(LOLLIPOP, Drives(LOLLIPOP[1], drives_without_repeats(LOLLIPOP[1])))] * 3


def shares_by_words(told):
    """What point [17] says, of a reckoning, and the sum of the lengths of the best drives."""
    town = told.town
    found = [Fraction(0)] * len(town[1])
    lengths = 0
    for g in town[3]:
        for h in town[3]:
            best = told.best(g, h) if g != h else []
            for drive in best:
                for ends in zip(drive, drive[1:]):
                    street = [place for place, (a, b, _) in enumerate(town[1]) if sorted(ends) == [a, b]]
                    found[street[0]] += Fraction(1, len(best))
            lengths += told.least(g, h) or 0 if best else 0
    return found, lengths


class Shares(unittest.TestCase):
    def test_shares(self):
        chance = random.Random(92)
        seen = {"none": 0, "whole": 0, "no whole number": 0, "a pair without a drive": 0, "a street twice": 0}
        for town, drives in TOWNS:
            for _ in range(8):
                signs = further_signs(chance, town, 4)
                told = Reckoning(town, signs, drives)
                expected, lengths = shares_by_words(told)
                found = shares(town, signs)
                with self.subTest(town=town, signs=signs):
                    self.assertEqual(found, [(share.numerator, share.denominator) for share in expected])
                    self.assertEqual(sum(Fraction(*share) * street[2] for share, street in zip(found, town[1])), lengths)
                for share in expected:
                    seen["none" if share == 0 else "whole" if share.denominator == 1 else "no whole number"] += 1
                best = {(g, h): told.best(g, h) for g in town[3] for h in town[3] if g != h}
                seen["a pair without a drive"] += not all(best.values())
                seen["a street twice"] += any(
                    len({frozenset(ends) for ends in zip(drive, drive[1:])}) < len(drive) - 1
                    for several in best.values() for drive in several
                )
        self.assertTrue(all(many > 10 for many in seen.values()), seen)

    def test_moved_shares(self):
        chance = random.Random(93)
        moved = 0
        for town, drives in TOWNS:
            for _ in range(5):
                more = further_signs(chance, town, 4)
                if more:
                    sign = chance.choice(more)
                    signs = tuple(other for other in more if other != sign)
                    before, _ = shares_by_words(Reckoning(town, signs, drives))
                    after, _ = shares_by_words(Reckoning(town, more, drives))
                    expected = [later - earlier for later, earlier in zip(after, before)]
                    self.assertEqual(
                        moved_shares(town, signs, sign), [(share.numerator, share.denominator) for share in expected]
                    )
                    moved += any(expected)
        self.assertGreater(moved, 20)
