"""A desk at which signs are bought and given back, step by step."""

from quietstreets.errors import Bought, NothingToUndo, NotOffered
from quietstreets.offers import are_bought_of, price_of_bought, require_offers
from quietstreets.quiet import loud_between_gates
from quietstreets.towns import require_town


class Desk:
    """A town, offers, the signs that are bought of these, and the steps that led to them."""

    def __init__(self, town, offers):
        require_town(town)
        require_offers(town, offers)
        self._town = town
        self._offers = offers
        self._bought = ()
        # The steps that can be undone: the sign of each, and what was bought before it.
        self._steps = []

    def __eq__(self, other):
        # Never left to the other object, which might take itself for a desk.
        return (
            isinstance(other, Desk)
            and self._town == other._town
            and self._offers == other._offers
            and self._bought == other._bought
        )

    def __len__(self):
        return len(self._bought)

    def __str__(self):
        return str(price_of_bought(self._offers, self._bought))

    def buy(self, sign):
        """Buys an offered sign and returns whether the town is quiet then."""
        self._require_offered(sign)
        if sign in self._bought:
            raise Bought("the sign is bought already")
        self._take_step(sign, tuple(sorted((*self._bought, sign))))
        return not loud_between_gates(self._town, self._bought)

    def give_back(self, sign):
        """Gives a bought sign back and returns its price."""
        self._require_offered(sign)
        if sign not in self._bought:
            raise Bought("the sign is not bought")
        self._take_step(sign, tuple([other for other in self._bought if other != sign]))
        return price_of_bought(self._offers, (sign,))

    def signs(self):
        """The bought signs."""
        return self._bought

    def price(self):
        """The price of the bought signs."""
        return price_of_bought(self._offers, self._bought)

    def undo(self):
        """Undoes the last step and returns its sign."""
        if not self._steps:
            raise NothingToUndo("there is no step")
        sign, before = self._steps.pop()
        self._bought = before
        return sign

    def duplicate(self):
        """A desk with the same town, offers and bought signs, but without a step to undo."""
        other = Desk(self._town, self._offers)
        other._bought = self._bought
        return other

    def _require_offered(self, sign):
        """Raises NotOffered if sign is not an offered sign."""
        if not are_bought_of(self._town, self._offers, (sign,)):
            raise NotOffered("the sign is not offered")

    def _take_step(self, sign, bought):
        """Makes these the bought signs, by a step that can be undone."""
        self._steps.append((sign, self._bought))
        self._bought = bought
