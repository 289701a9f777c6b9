"""A second and slower reckoning, close to the words of the points, that goes through all drives up to a length."""

import random
from itertools import combinations

from quietstreets.towns import is_town

KITE = ((0, 1, 3), (0, 2, 1), (1, 2, 2), (1, 3, 5), (2, 3, 4))
LADLE = ((0, 1, 1), (1, 2, 2), (1, 3, 3), (2, 3, 4), (3, 4, 5))

# Streets with so few and short drives that all of them, up to any length at
# which a drive goes by some direction twice, can be gone through.
SMALL = (
    (4, ((0, 1, 1), (0, 2, 2), (1, 3, 1), (2, 3, 2))),
    (4, ((0, 1, 1), (0, 2, 1), (1, 2, 2), (1, 3, 1), (2, 3, 2))),
    (4, ((0, 1, 2), (0, 2, 1), (0, 3, 2), (1, 3, 1), (2, 3, 1))),
    (5, ((0, 1, 1), (1, 2, 2), (1, 3, 1), (2, 3, 2), (3, 4, 1))),
    (5, ((0, 1, 1), (0, 2, 1), (1, 3, 2), (2, 3, 1), (2, 4, 1), (3, 4, 2))),
    (5, ((0, 2, 1), (1, 2, 1), (2, 3, 1), (2, 4, 2), (3, 4, 1))),
    (6, ((0, 1, 1), (1, 2, 1), (1, 5, 1), (2, 3, 1), (2, 4, 1), (3, 4, 1))),
    (6, ((0, 1, 1), (1, 2, 1), (2, 3, 2), (3, 4, 1), (4, 5, 1))),
)


def all_signs(streets):
    """All signs of the streets, in ascending order."""
    directions = {(a, b) for a, b, _ in streets} | {(b, a) for a, b, _ in streets}
    signs = [("way", a, b) for a, b in directions] + [("shut", a, b) for a, b, _ in streets]
    signs += [("turn", a, b, c) for a, b in directions for d, c in directions if d == b and c != a]
    return sorted(signs)


def bars_by_words(sign, drive):
    """What point [3] says of a sign and a drive, read literally."""
    kind, *named = sign
    for at in range(len(drive) - 1):
        if kind == "way" and list(drive[at:at + 2]) == named:
            return True
        if kind == "shut" and sorted(drive[at:at + 2]) == named:
            return True
        if kind == "turn" and list(drive[at:at + 3]) == named:
            return True
    return False


def drives_without_repeats(streets):
    """All drives that go by no direction twice; a longer one that leads elsewhere leads nowhere else."""
    directions = sorted([(a, b) for a, b, _ in streets] + [(b, a) for a, b, _ in streets])
    waiting = list(directions)
    found = []
    while waiting:
        drive = waiting.pop()
        found.append(drive)
        used = list(zip(drive, drive[1:]))
        waiting += [drive + (c,) for b, c in directions if b == drive[-1] and c != drive[-2] and (b, c) not in used]
    return found


def drives_up_to(streets, most):
    """All drives of at most this length."""
    directions = sorted([(a, b) for a, b, _ in streets] + [(b, a) for a, b, _ in streets])
    waiting = list(directions)
    found = []
    while waiting:
        drive = waiting.pop()
        if length_by_words(streets, drive) <= most:
            found.append(drive)
            waiting += [drive + (c,) for b, c in directions if b == drive[-1] and c != drive[-2]]
    return found


def length_by_words(streets, drive):
    """The sum of the lengths of the streets of a drive."""
    return sum(
        length for a, b, length in streets for ends in zip(drive, drive[1:]) if sorted(ends) == [a, b]
    )


class Drives:
    """Some drives along streets, each with what is asked of it again and again."""

    def __init__(self, streets, drives):
        signs = all_signs(streets)
        self.streets = streets
        self.rows = [
            (
                drive,
                length_by_words(streets, drive),
                {sign for sign in signs if bars_by_words(sign, drive)},
                {at for at, (a, b, _) in enumerate(streets) if (a, b) in steps or (b, a) in steps},
            )
            for drive in drives
            for steps in [list(zip(drive, drive[1:]))]
        ]


class Reckoning:
    """What the points say of a town under signs, read literally, by going through these drives."""

    def __init__(self, town, signs, drives):
        self.town = town
        barring = set(town[2]) | set(signs)
        self.free = [row for row in drives.rows if not row[2] & barring]

    def least(self, start, goal):
        return min((row[1] for row in self.free if (row[0][0], row[0][-1]) == (start, goal)), default=None)

    def best(self, start, goal):
        least = self.least(start, goal)
        return sorted(row[0] for row in self.free if (row[0][0], row[0][-1], row[1]) == (start, goal, least))

    def table(self, start):
        numbers = {}
        for drive, length, _, _ in self.free:
            if drive[0] == start:
                numbers[drive[-2:]] = min(length, numbers.get(drive[-2:], length))
        return sorted(ends + (length,) for ends, length in numbers.items())

    def between_gates(self):
        gates = self.town[3]
        chosen = {drive for g in gates for h in gates if g != h for drive in self.best(g, h)}
        return [row for row in self.free if row[0] in chosen]

    def loud(self):
        return sorted(row[0] for row in self.between_gates() if row[3] & set(self.town[5]))

    def used(self):
        return sorted({at for row in self.between_gates() for at in row[3]})

    def to_and_from(self, house):
        lengths = []
        for pairs in ([(g, house) for g in self.town[3]], [(house, g) for g in self.town[3]]):
            found = [self.least(*pair) for pair in pairs]
            lengths.append(min((length for length in found if length is not None), default=None))
        return lengths


def growth_by_words(length, before):
    """What point [8] calls a growth."""
    return None if length is None else length - before


def growths_by_words(now, before):
    """The growths between the gates, of two reckonings of one town."""
    gates = now.town[3]
    return [(g, h, growth_by_words(now.least(g, h), before.least(g, h))) for g in gates for h in gates if g != h]


def home_growths_by_words(now, before):
    """The growths of the houses, of two reckonings of one town."""
    return [
        (house, *map(growth_by_words, now.to_and_from(house), before.to_and_from(house)))
        for house in now.town[4]
    ]


def lacks_by_words(now, before, signs, demand):
    """What point [8] calls lacks, of two reckonings of one town, the first of them under the signs."""
    through, home, lines = demand
    found = []
    for g, h, growth in growths_by_words(now, before):
        if growth is None or growth > through:
            found.append(("through", g, h))
    for house, into, out in home_growths_by_words(now, before):
        if into is None or into > home:
            found.append(("in", house))
        if out is None or out > home:
            found.append(("out", house))
    for at, line in enumerate(lines):
        if any(bars_by_words(sign, line) for sign in signs):
            found.append(("line", at))
    return sorted(found)


def small_towns(seed, many, streets=SMALL):
    """So many towns on each of these streets, and the drives there that go by no direction twice."""
    chance = random.Random(seed)
    for places, some in streets:
        drives = Drives(some, drives_without_repeats(some))
        signs = all_signs(some)
        found = 0
        while found < many:
            rim = chance.sample(range(places), chance.randint(2, places))
            gates = tuple(sorted(rim[:chance.choice((2, 2, 3, 4))]))
            houses = tuple(sorted(set(rim) - set(gates)))[:3]
            standing = some_signs(chance, signs, (0, 0, 1, 2, 3))
            quiet = tuple(sorted(chance.sample(range(len(some)), chance.choice((0, 1, 1, 2, 3)))))
            town = (places, some, standing, gates, houses, quiet)
            if is_town(town):
                found += 1
                yield town, drives


def further_signs(chance, town, most):
    """Some signs for the town, at most so many."""
    return some_signs(chance, [sign for sign in all_signs(town[1]) if sign not in town[2]], range(most + 1))


def some_signs(chance, signs, numbers):
    """Some of the signs, one of the numbers of them, often turns alone: with these, places are come to again."""
    turns = [sign for sign in signs if sign[0] == "turn"]
    some = turns if chance.random() < 0.5 else signs
    return tuple(sorted(chance.sample(some, min(chance.choice(numbers), len(some)))))


def parts(signs):
    """All tuples of some of the signs."""
    return [some for many in range(len(signs) + 1) for some in combinations(signs, many)]
