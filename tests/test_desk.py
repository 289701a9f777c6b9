"""Desk."""

import copy
import random
import unittest
from itertools import product

from quietstreets.desk import Desk
from quietstreets.errors import Bought, InvalidOffers, InvalidTown, NothingToUndo, NotOffered
from quietstreets.offers import price_of
from quietstreets.quiet import is_quiet

from sample_towns import GRID, LINE, LOLLIPOP, SQUARE, SQUARE_SIGNS, TWO, WRONG, Agreeable, Touchy, bent, put, spoiled

SHUT, TURN, WAY = [sign for sign, _ in TWO]
OTHER = ("way", 0, 1)
EIGHT = tuple((sign, at + 1) for at, sign in enumerate(SQUARE_SIGNS[::2][:8]))
METHODS = ("buy", "give_back", "signs", "price", "undo", "duplicate", "__len__", "__str__", "__eq__")


class Model:
    """What point [19] says of a desk, with sets of signs in place of tuples."""

    def __init__(self, town, offers, bought=()):
        self.town = town
        self.prices = dict(offers)
        self.history = [set(bought)]
        self.steps = []

    def do(self, name, sign):
        """What a method returns, or the class of what it raises."""
        now = self.history[-1]
        if name == "undo":
            if not self.steps:
                return NothingToUndo
            self.history.pop()
            return self.steps.pop()
        if sign not in self.prices:
            return NotOffered
        if (sign in now) == (name == "buy"):
            return Bought
        self.steps.append(sign)
        self.history.append(now ^ {sign})
        return is_quiet(self.town, self.signs()) if name == "buy" else self.prices[sign]

    def signs(self):
        return tuple(sorted(self.history[-1]))

    def price(self):
        return sum(self.prices[sign] for sign in self.history[-1])


class Desks(unittest.TestCase):
    def shows(self, desk, *signs, price):
        """Such is the state of the desk, as far as it can be seen."""
        self.assertEqual(desk.signs(), signs)
        self.assertIs(type(desk.signs()), tuple)
        self.assertEqual(desk.price(), price)
        self.assertIs(type(desk.price()), int)
        self.assertEqual(len(desk), len(signs))
        self.assertEqual(str(desk), str(price))

    def test_examples(self):
        d = Desk(SQUARE, TWO)
        self.assertIs(d.buy(("shut", 0, 1)), True)
        self.assertEqual(str(d), "3")
        self.assertEqual(d.signs(), (("shut", 0, 1),))
        self.assertEqual(d.price(), 3)
        self.assertEqual(d.undo(), ("shut", 0, 1))

    def test_defined_in_its_file_with_its_methods(self):
        self.assertEqual(Desk.__module__, "quietstreets.desk")
        for name in METHODS:
            self.assertIn(name, vars(Desk))
            self.assertEqual(vars(Desk)[name].__module__, "quietstreets.desk")

    def test_a_new_desk(self):
        for town, offers in ((SQUARE, TWO), (SQUARE, ()), (LINE, ()), (GRID, ()), (SQUARE, EIGHT)):
            self.shows(Desk(town, offers), price=0)
            self.shows(Desk(town=town, offers=offers), price=0)

    def test_buying(self):
        desk = Desk(SQUARE, TWO)
        self.assertIs(desk.buy(WAY), False)
        self.shows(desk, WAY, price=1)
        self.assertIs(desk.buy(TURN), True)
        self.shows(desk, TURN, WAY, price=2)
        self.assertIs(desk.buy(SHUT), True)
        self.shows(desk, SHUT, TURN, WAY, price=5)

    def test_bought_signs_are_ascending_in_any_order_of_buying(self):
        for order in ((SHUT, TURN, WAY), (WAY, TURN, SHUT), (TURN, WAY, SHUT), (WAY, SHUT, TURN)):
            desk = Desk(SQUARE, TWO)
            for at, sign in enumerate(order):
                desk.buy(sign)
                self.assertEqual(desk.signs(), tuple(sorted(order[:at + 1])))
            self.shows(desk, SHUT, TURN, WAY, price=5)

    def test_buy_tells_whether_the_town_is_quiet(self):
        town = (4, ((0, 1, 1), (0, 2, 2), (0, 3, 9), (1, 3, 1), (2, 3, 2)), (), (0, 3), (), (1,))
        desk = Desk(town, ((("shut", 0, 1), 1), (("shut", 0, 2), 1)))
        # More signs can make a quiet town loud.
        self.assertIs(desk.buy(("shut", 0, 1)), False)
        self.assertIs(desk.buy(("shut", 0, 2)), True)
        self.assertIs(Desk(put(SQUARE, (5,), ()), TWO).buy(WAY), True)
        self.assertIs(Desk(put(SQUARE, (2,), (TURN,)), TWO[2:]).buy(WAY), True)
        # Without any free drive no best one is loud.
        self.assertIs(Desk(put(LINE, (5,), (0,)), ((("shut", 0, 1), 2),)).buy(("shut", 0, 1)), True)

    def test_giving_back(self):
        desk = Desk(SQUARE, TWO)
        for sign in (SHUT, TURN, WAY):
            desk.buy(sign)
        self.assertEqual(desk.give_back(TURN), 1)
        self.shows(desk, SHUT, WAY, price=4)
        self.assertEqual(desk.give_back(SHUT), 3)
        self.shows(desk, WAY, price=1)
        self.assertEqual(desk.give_back(WAY), 1)
        self.shows(desk, price=0)
        self.assertIs(desk.buy(SHUT), True)
        self.shows(desk, SHUT, price=3)

    def test_undoing_buying_and_giving_back(self):
        desk = Desk(SQUARE, TWO)
        desk.buy(SHUT)
        desk.buy(WAY)
        desk.give_back(SHUT)
        self.shows(desk, WAY, price=1)
        self.assertEqual(desk.undo(), SHUT)
        self.shows(desk, SHUT, WAY, price=4)
        self.assertEqual(desk.undo(), WAY)
        self.shows(desk, SHUT, price=3)
        self.assertEqual(desk.undo(), SHUT)
        self.shows(desk, price=0)
        self.assertRaises(NothingToUndo, desk.undo)

    def test_after_undo(self):
        desk = Desk(SQUARE, TWO)
        desk.buy(SHUT)
        desk.buy(WAY)
        self.assertEqual(desk.undo(), WAY)
        # An undone step cannot be undone again, nor is it a step of its own.
        self.assertEqual(desk.undo(), SHUT)
        self.assertRaises(NothingToUndo, desk.undo)
        desk.buy(TURN)
        self.assertEqual(desk.undo(), TURN)
        self.assertRaises(NothingToUndo, desk.undo)
        desk.buy(TURN)
        desk.give_back(TURN)
        desk.undo()
        self.shows(desk, TURN, price=1)
        self.assertEqual(desk.give_back(TURN), 1)
        self.assertRaises(Bought, desk.give_back, TURN)
        self.assertEqual([desk.undo(), desk.undo()], [TURN, TURN])
        self.shows(desk, price=0)
        self.assertRaises(Bought, desk.give_back, TURN)

    def test_nothing_to_undo(self):
        for desk in (Desk(SQUARE, TWO), Desk(SQUARE, ()), Desk(LINE, ())):
            for _ in range(3):
                self.assertRaises(NothingToUndo, desk.undo)
            self.shows(desk, price=0)

    def test_without_offers(self):
        desk = Desk(SQUARE, ())
        for sign in SQUARE_SIGNS:
            self.assertRaises(NotOffered, desk.buy, sign)
            self.assertRaises(NotOffered, desk.give_back, sign)
        self.shows(desk, price=0)
        self.assertRaises(NothingToUndo, desk.undo)
        self.shows(desk.duplicate(), price=0)

    def test_all_offers(self):
        desk = Desk(SQUARE, EIGHT)
        for sign, _ in EIGHT[::-1]:
            desk.buy(sign)
        self.shows(desk, *[sign for sign, _ in EIGHT], price=36)
        self.assertEqual([desk.give_back(sign) for sign, _ in EIGHT], [1, 2, 3, 4, 5, 6, 7, 8])
        self.shows(desk, price=0)
        nine = Desk(SQUARE, tuple((sign, 9) for sign, _ in EIGHT))
        for sign, _ in EIGHT:
            nine.buy(sign)
        self.shows(nine, *[sign for sign, _ in EIGHT], price=72)

    def test_duplicate(self):
        desk = Desk(SQUARE, TWO)
        desk.buy(SHUT)
        desk.buy(WAY)
        other = desk.duplicate()
        self.assertIs(type(other), Desk)
        self.assertIsNot(other, desk)
        self.shows(other, SHUT, WAY, price=4)
        # No step from before the duplication can be undone there.
        self.assertRaises(NothingToUndo, other.undo)
        self.shows(other, SHUT, WAY, price=4)
        # The two go on apart from each other.
        other.give_back(SHUT)
        self.shows(desk, SHUT, WAY, price=4)
        self.assertEqual(desk.undo(), WAY)
        self.shows(desk, SHUT, price=3)
        self.shows(other, WAY, price=1)
        desk.buy(TURN)
        self.assertEqual(other.undo(), SHUT)
        self.assertRaises(NothingToUndo, other.undo)
        self.shows(other, SHUT, WAY, price=4)
        self.shows(desk, SHUT, TURN, price=4)
        self.assertEqual([desk.undo(), desk.undo()], [TURN, SHUT])
        self.assertRaises(NothingToUndo, desk.undo)

    def test_duplicate_of_a_duplicate(self):
        desk = Desk(SQUARE, TWO)
        desk.buy(SHUT)
        other = desk.duplicate()
        other.buy(WAY)
        third = other.duplicate()
        self.assertRaises(NothingToUndo, third.undo)
        self.assertEqual(other.undo(), WAY)
        self.assertRaises(NothingToUndo, other.undo)
        self.shows(third, SHUT, WAY, price=4)
        self.assertEqual(desk.undo(), SHUT)
        self.shows(other, SHUT, price=3)
        self.assertEqual(third.give_back(SHUT), 3)
        self.assertIs(desk.duplicate().buy(SHUT), True)
        self.shows(desk, price=0)

    def test_two_desks_do_not_share_anything(self):
        one, other = Desk(SQUARE, TWO), Desk(SQUARE, TWO)
        one.buy(SHUT)
        self.shows(other, price=0)
        self.assertRaises(NothingToUndo, other.undo)


class Equality(unittest.TestCase):
    def same(self, one, other, expected):
        self.assertIs(one == other, expected)
        self.assertIs(other == one, expected)
        self.assertIs(one != other, not expected)
        self.assertIs(other != one, not expected)

    def test_desks(self):
        one, other = Desk(SQUARE, TWO), Desk(SQUARE, TWO)
        self.same(one, one, True)
        self.same(one, other, True)
        one.buy(WAY)
        self.same(one, other, False)
        other.buy(WAY)
        self.same(one, other, True)
        other.buy(TURN)
        self.same(one, other, False)
        one.buy(SHUT)
        one.buy(TURN)
        one.give_back(SHUT)
        # The steps do not matter.
        self.same(one, other, True)
        other.undo()
        self.same(one, other, False)

    def test_the_same_price_and_length(self):
        one, other = Desk(SQUARE, TWO), Desk(SQUARE, TWO)
        one.buy(WAY)
        other.buy(TURN)
        self.assertEqual((len(one), str(one)), (len(other), str(other)))
        self.same(one, other, False)

    def test_towns_and_offers(self):
        for town in (put(SQUARE, (5,), (1,)), put(SQUARE, (4,), (1,)), put(SQUARE, (0,), 5), put(SQUARE, (1, 0, 2), 2)):
            self.same(Desk(SQUARE, TWO), Desk(town, TWO), False)
            self.same(Desk(town, TWO), Desk(town, TWO), True)
        for offers in ((), TWO[:2], TWO[1:], ((SHUT, 4),) + TWO[1:], ((OTHER, 1),)):
            self.same(Desk(SQUARE, TWO), Desk(SQUARE, offers), False)
            self.same(Desk(SQUARE, offers), Desk(SQUARE, offers), True)
        self.same(Desk(SQUARE, ()), Desk(put(SQUARE, (5,), ()), ()), False)

    def test_equal_values_that_are_not_the_same_ones(self):
        town, offers = eval(repr(SQUARE)), eval(repr(TWO))
        one, other = Desk(SQUARE, TWO), Desk(town, offers)
        one.buy(SHUT)
        other.buy(eval(repr(SHUT)))
        self.same(one, other, True)

    def test_duplicates(self):
        desk = Desk(SQUARE, TWO)
        self.same(desk, desk.duplicate(), True)
        desk.buy(SHUT)
        other = desk.duplicate()
        self.same(desk, other, True)
        other.buy(WAY)
        self.same(desk, other, False)
        other.undo()
        self.same(desk, other, True)
        desk.undo()
        self.same(desk, other, False)

    def test_other_objects(self):
        desk = Desk(SQUARE, TWO)
        desk.buy(SHUT)
        for value in (
            *WRONG, SQUARE, TWO, (SQUARE, TWO), (SQUARE, TWO, (SHUT,)), [SQUARE, TWO, (SHUT,)], (SHUT,), 3, 1, "3", "1", True, 0,
            Desk, object(), Model(SQUARE, TWO),
        ):
            self.same(desk, value, False)
        # The desk does not ask others whether they are equal to it.
        self.assertIs(desk == Agreeable(), False)
        self.assertIs(desk == Touchy(), False)
        self.assertIs(desk != Touchy(), True)
        self.assertNotIn(Desk(SQUARE, ()), [desk, 0, None, ()])
        self.assertIn(desk.duplicate(), [0, desk])


class Exceptions(unittest.TestCase):
    def test_invalid_town(self):
        for town in (*WRONG, SQUARE[:5], list(SQUARE), put(SQUARE, (3,), (0, 4)), *spoiled(SQUARE), *bent(LINE)):
            self.assertRaises(InvalidTown, Desk, town, ())
            self.assertRaises(InvalidTown, Desk, town, None)

    def test_invalid_offers(self):
        for offers in (
            *WRONG, list(TWO), TWO[::-1], TWO + TWO, dict(TWO), ((OTHER, 0),), ((OTHER, 10),), ((OTHER, True),),
            tuple((sign, 1) for sign in SQUARE_SIGNS[:9]), *spoiled(TWO), *bent(TWO),
        ):
            self.assertRaises(InvalidOffers, Desk, SQUARE, offers)
        self.assertRaises(InvalidOffers, Desk, put(SQUARE, (2,), (TURN,)), TWO)
        self.assertRaises(InvalidOffers, Desk, LINE, TWO)

    def state(self, desk):
        """All that can be seen of a desk."""
        other = copy.deepcopy(desk)
        undone = []
        while True:
            try:
                undone.append((other.undo(), other.signs()))
            except NothingToUndo:
                return desk.signs(), desk.price(), len(desk), str(desk), undone

    def unchanged(self, desk, error, call, *arguments):
        before = self.state(desk)
        with self.assertRaises(error) as caught:
            call(*arguments)
        self.assertIs(type(caught.exception), error)
        self.assertEqual(self.state(desk), before)

    def test_not_offered(self):
        desk = Desk(SQUARE, TWO)
        desk.buy(TURN)
        for sign in (
            OTHER, ("way", 0, 3), ("shut", 1, 0), ("way", True, 0), ("way", 1, False), list(WAY), (WAY,), (WAY, 1), TWO[2], TWO, (),
            "way 1 0", "way", None, 0, True, -1, 10 ** 30, Agreeable(), Touchy(), *WRONG, *spoiled(WAY), *spoiled(TURN), *bent(TURN),
            *[sign for sign in SQUARE_SIGNS if sign not in (SHUT, TURN, WAY)],
        ):
            with self.subTest(sign=type(sign)):
                self.unchanged(desk, NotOffered, desk.buy, sign)
                self.unchanged(desk, NotOffered, desk.give_back, sign)

    def test_bought(self):
        desk = Desk(SQUARE, TWO)
        desk.buy(TURN)
        self.unchanged(desk, Bought, desk.buy, TURN)
        for sign in (SHUT, WAY):
            self.unchanged(desk, Bought, desk.give_back, sign)
        desk.give_back(TURN)
        self.unchanged(desk, Bought, desk.give_back, TURN)
        desk.undo()
        self.unchanged(desk, Bought, desk.buy, TURN)
        self.unchanged(desk.duplicate(), Bought, desk.buy, TURN)

    def test_nothing_to_undo(self):
        desk = Desk(SQUARE, TWO)
        desk.buy(TURN)
        other = desk.duplicate()
        self.unchanged(other, NothingToUndo, other.undo)
        desk.undo()
        self.unchanged(desk, NothingToUndo, desk.undo)

    def test_a_desk_that_cannot_be_made(self):
        desk = Desk(SQUARE, TWO)
        desk.buy(SHUT)
        before = self.state(desk)
        self.assertRaises(InvalidOffers, Desk, SQUARE, TWO[::-1])
        self.assertEqual(self.state(desk), before)


class Steps(unittest.TestCase):
    def go(self, desk, model, name, sign):
        """Does the same at a desk and at its model, and compares what comes of it."""
        expected = model.do(name, sign)
        try:
            found = desk.undo() if name == "undo" else getattr(desk, name)(sign)
        except (Bought, NotOffered, NothingToUndo) as error:
            found = type(error)
        self.assertEqual(found, expected)
        self.assertIs(type(found), type(expected))
        self.assertEqual(desk.signs(), model.signs())
        self.assertEqual(desk.price(), model.price())
        self.assertEqual(len(desk), len(model.signs()))
        self.assertEqual(str(desk), str(model.price()))

    def test_each_method_after_each_other_one(self):
        calls = [(name, sign) for name in ("buy", "give_back") for sign in (TURN, WAY, OTHER)]
        calls += [("undo", None), ("duplicate", None)]
        # Four calls in a row, also ones that raise an exception.
        for row in product(calls, repeat=4):
            desk, model = Desk(SQUARE, TWO), Model(SQUARE, TWO)
            for name, sign in row:
                if name == "duplicate":
                    desk, model = desk.duplicate(), Model(SQUARE, TWO, model.signs())
                else:
                    self.go(desk, model, name, sign)

    def test_many_steps_at_many_desks(self):
        chance = random.Random(71)
        for town, offers in ((SQUARE, TWO), (SQUARE, EIGHT), (put(SQUARE, (3,), (0, 1, 3)), EIGHT), (LOLLIPOP, ())):
            signs = [sign for sign, _ in offers] + [OTHER, ("way", 0, 3)]
            desks = [(Desk(town, offers), Model(town, offers))]
            for _ in range(400):
                desk, model = chance.choice(desks)
                name = chance.choice(("buy", "buy", "give_back", "undo", "duplicate"))
                if name == "duplicate":
                    desks.append((desk.duplicate(), Model(town, offers, model.signs())))
                else:
                    self.go(desk, model, name, chance.choice(signs))
                for other, told in chance.sample(desks, min(3, len(desks))):
                    self.assertEqual(other.signs(), told.signs())
                    self.assertIs(other == desk, told.signs() == model.signs())
                    self.assertEqual(other.price(), price_of(town, offers, told.signs()))

    def test_a_long_history(self):
        desk = Desk(SQUARE, TWO)
        for _ in range(500):
            desk.buy(WAY)
            desk.give_back(WAY)
        for _ in range(1000):
            self.assertEqual(desk.undo(), WAY)
        self.assertRaises(NothingToUndo, desk.undo)


class NothingIsModified(unittest.TestCase):
    def test_arguments(self):
        town, offers, sign = copy.deepcopy(SQUARE), copy.deepcopy(TWO), copy.deepcopy(SHUT)
        desk = Desk(town, offers)
        desk.buy(sign)
        desk.give_back(sign)
        desk.undo()
        desk.duplicate().buy(WAY)
        self.assertEqual((town, offers, sign), (SQUARE, TWO, SHUT))
        for wrong in ([0, 1], ["way", 1, 0], {"way": 1}):
            before = copy.deepcopy(wrong)
            self.assertRaises(NotOffered, desk.buy, wrong)
            self.assertRaises(NotOffered, desk.give_back, wrong)
            self.assertRaises(InvalidTown, Desk, wrong, wrong)
            self.assertEqual(wrong, before)

    def test_bought_signs_of_before(self):
        desk = Desk(SQUARE, TWO)
        desk.buy(SHUT)
        before = desk.signs()
        desk.buy(WAY)
        self.assertEqual(before, (SHUT,))
