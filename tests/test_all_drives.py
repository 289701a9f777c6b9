"""Many small towns, judged against a second and slower reckoning that tries all drives."""

import unittest
from itertools import combinations

from quietstreets.drives import bars, drive_length, is_drive, is_free
from quietstreets.errors import NoTown
from quietstreets.towns import are_signs, closed, is_town

from reckoning import KITE, LADLE, all_signs, bars_by_words, drives_without_repeats


def ends_of_free_drives(drives, signs):
    """The pairs of places from the one of which a free drive leads to the other."""
    return {(drive[0], drive[-1]) for drive in drives if not any(bars_by_words(sign, drive) for sign in signs)}


def is_town_by_words(ends, gates, houses):
    """What point [6] says of the free drives of a town, read literally."""
    for gate in gates:
        for other in gates:
            if gate != other and (gate, other) not in ends:
                return False
    for house in houses:
        if not any((gate, house) in ends for gate in gates) or not any((house, gate) in ends for gate in gates):
            return False
    return True


class AllDrives(unittest.TestCase):
    def check_towns(self, places, streets, rims, most_signs):
        drives = drives_without_repeats(streets)
        signs = all_signs(streets)
        seen = set()
        for many in range(most_signs + 1):
            for standing in combinations(signs, many):
                ends = ends_of_free_drives(drives, standing)
                for gates, houses in rims:
                    town = (places, streets, standing, gates, houses, ())
                    expected = is_town_by_words(ends, gates, houses)
                    self.assertIs(is_town(town), expected, town)
                    seen.add(expected)
        self.assertEqual(seen, {True, False})

    def test_towns_on_the_kite(self):
        self.check_towns(4, KITE, (((0, 3), (1,)), ((0, 1, 3), (2,)), ((1, 2), (0, 3)), ((0, 1, 2, 3), ())), 2)

    def test_towns_on_the_ladle(self):
        self.check_towns(5, LADLE, (((0, 4), (2,)), ((0, 2), (1, 3, 4)), ((0, 2, 4), ())), 2)

    def test_three_signs_on_the_ladle(self):
        self.check_towns(5, LADLE, (((0, 4), ()), ((0, 2), (4,))), 3)

    def test_closing(self):
        drives = {at: drives_without_repeats(KITE[:at] + KITE[at + 1:]) for at in range(5)}
        whole = drives_without_repeats(KITE)
        gates, houses = (0, 3), (1,)
        closings = []
        for standing in combinations(all_signs(KITE), 2):
            if not is_town_by_words(ends_of_free_drives(whole, standing), gates, houses):
                continue
            for at, (a, b, _) in enumerate(KITE):
                left = tuple(s for s in standing if (a, b) not in zip(s[1:], s[2:]) and (b, a) not in zip(s[1:], s[2:]))
                town = (4, KITE, standing, gates, houses, (0, 2, 4))
                quiet = tuple(k - (k > at) for k in (0, 2, 4) if k != at)
                good = is_town_by_words(ends_of_free_drives(drives[at], left), gates, houses)
                closings.append(good)
                if good:
                    self.assertEqual(closed(town, at), (4, KITE[:at] + KITE[at + 1:], left, gates, houses, quiet))
                else:
                    with self.assertRaises(NoTown):
                        closed(town, at)
        self.assertIn(True, closings)
        self.assertIn(False, closings)

    def test_signs_and_drives(self):
        lengths = {ends: length for a, b, length in KITE for ends in ((a, b), (b, a))}
        town = (4, KITE, (), (0, 3), (), ())
        for drive in drives_without_repeats(KITE):
            self.assertIs(is_drive(town, drive), True)
            self.assertEqual(drive_length(town, drive), sum(lengths[ends] for ends in zip(drive, drive[1:])))
        for drive in drives_without_repeats(KITE)[::7]:
            for sign in all_signs(KITE):
                self.assertIs(bars(town, sign, drive), bars_by_words(sign, drive), (sign, drive))

    def test_free_drives(self):
        signs = all_signs(KITE)
        drives = drives_without_repeats(KITE)[::23]
        for sign, other in list(combinations(signs, 2))[::3]:
            town = (4, KITE, (sign,), (1, 2), (), ())
            if is_town(town):
                self.assertIs(are_signs(town, (other,)), True)
                for drive in drives:
                    free = not bars_by_words(sign, drive) and not bars_by_words(other, drive)
                    self.assertIs(is_free(town, (other,), drive), free, (sign, other, drive))
