"""Towns, wrong values and helpers that several tests share."""

SQUARE = (4, ((0, 1, 1), (0, 2, 2), (1, 3, 1), (2, 3, 2)), (), (0, 3), (), (0,))

# All signs of the streets of SQUARE, in ascending order: 4 + 8 + 8 of them.
SQUARE_SIGNS = (
    ("shut", 0, 1), ("shut", 0, 2), ("shut", 1, 3), ("shut", 2, 3),
    ("turn", 0, 1, 3), ("turn", 0, 2, 3), ("turn", 1, 0, 2), ("turn", 1, 3, 2),
    ("turn", 2, 0, 1), ("turn", 2, 3, 1), ("turn", 3, 1, 0), ("turn", 3, 2, 0),
    ("way", 0, 1), ("way", 0, 2), ("way", 1, 0), ("way", 1, 3),
    ("way", 2, 0), ("way", 2, 3), ("way", 3, 1), ("way", 3, 2),
)

# Offers of SQUARE.
TWO = ((("shut", 0, 1), 3), (("turn", 0, 1, 3), 1), (("way", 1, 0), 1))

# The least town that there is.
LINE = (2, ((0, 1, 7),), (), (0, 1), (), ())

# A grid of three by three places with two of its diagonals.
GRID_STREETS = (
    (0, 1, 1), (0, 3, 2), (0, 4, 3), (1, 2, 4), (1, 4, 5), (2, 5, 99), (3, 4, 7),
    (3, 6, 1), (4, 5, 9), (4, 7, 10), (4, 8, 11), (5, 8, 12), (6, 7, 13), (7, 8, 1),
)
GRID_SIGNS = (
    ("shut", 4, 7), ("turn", 0, 1, 2), ("turn", 1, 0, 3),
    ("turn", 4, 1, 0), ("way", 0, 1), ("way", 5, 4),
)
# The most of everything: 9 places, 14 streets, 6 signs, 4 gates, 3 houses.
GRID = (9, GRID_STREETS, GRID_SIGNS, (0, 2, 6, 8), (1, 3, 4), (0, 1, 5, 13))

# Gates 0 and 5 at place 1, where the turns between them are barred; behind
# place 2 a drive can go round, so it comes back through the street 1-2.
LOLLIPOP = (
    6,
    ((0, 1, 1), (1, 2, 2), (1, 5, 3), (2, 3, 4), (2, 4, 5), (3, 4, 6)),
    (("turn", 0, 1, 5), ("turn", 5, 1, 0)),
    (0, 5),
    (),
    (1, 5),
)

# Neither towns nor signs nor drives nor indexes; none of them is one sign.
WRONG = (
    None, "", "0", "way", "way 0 1", "none", b"", b"\x00\x01", [], [0, 1], [("shut", 0, 1)],
    {}, {0: 1}, set(), {0, 1}, frozenset(), range(2), object(), int, len,
    (None,), ((),), ("",), ("way",), (None, None), ([], []), ({}, {}), ("0", "1"), ((0, 1), (1, 3)),
    (("way", 0),), (("way", 0, 1, 3),), (("shut",),), (("turn", 0, 1),), (("way", [], {}),),
    ((),) * 6, (None,) * 6, ([],) * 6, (0,) * 6,
)


class Agreeable:
    """Says that it is equal to everything, and less and greater too."""

    def __eq__(self, other):
        return True

    def __lt__(self, other):
        return True

    __gt__ = __le__ = __ge__ = __lt__

    def __hash__(self):
        return 0


class Touchy:
    """Can neither be compared nor counted nor gone through."""

    def _fail(self, *rest):
        raise RuntimeError("touched")

    __eq__ = __lt__ = __le__ = __gt__ = __ge__ = __hash__ = _fail
    __bool__ = __len__ = __iter__ = __contains__ = __getitem__ = __index__ = __int__ = _fail


def spots(value):
    """The paths, each a tuple of indexes, to the value and all items within it."""
    found = [()]
    if isinstance(value, tuple):
        for at, item in enumerate(value):
            found += [(at,) + path for path in spots(item)]
    return found


def item_at(value, path):
    """The item to which a path leads."""
    for at in path:
        value = value[at]
    return value


def put(value, path, new):
    """The value with another item where a path leads to."""
    if not path:
        return new
    at = path[0]
    return value[:at] + (put(value[at], path[1:], new),) + value[at + 1:]


def wrong_items(item):
    """Things of another kind than an item of a town, signs or a drive, among them such as look like it."""
    if isinstance(item, tuple):
        return [None, object(), [item], {}, list(item), str(item), dict.fromkeys(range(len(item)))]
    if isinstance(item, int):
        falsities = [bool(item)] if item in (0, 1) else [True, False]
        return [None, object(), [item], {}, str(item), (item,), -1, -10 ** 30, 10 ** 30] + falsities
    return [None, object(), [item], {}, item.encode(), item.upper(), item + " ", "", "turns", 0, True, (item,)]


def spoiled(value):
    """All copies of a value with one wrong item, or with a wrong thing instead of it all."""
    return [put(value, path, other) for path in spots(value) for other in wrong_items(item_at(value, path))]


def bent(value):
    """All copies of a value with one of its items, or itself, a thing that answers oddly when asked."""
    return [put(value, path, other) for path in spots(value) for other in (Agreeable(), Touchy())]
