"""The exceptions of the package."""


class TownError(ValueError):
    """The base class of all exceptions of the package."""


class InvalidTown(TownError):
    """A value that should be a town is none."""


class InvalidSigns(TownError):
    """A value that should be signs for a town is none."""


class InvalidSign(TownError):
    """A value that should be a sign of the streets is none."""


class InvalidDrive(TownError):
    """A value that should be a drive is none."""


class InvalidPlace(TownError):
    """A value that should be a place is none, or start and goal are the same."""


class InvalidStreet(TownError):
    """A value that should be an index of a street, or several of them, is not."""


class InvalidDemand(TownError):
    """A value that should be a demand of a town is none."""


class InvalidOffers(TownError):
    """A value that should be offers of a town is none."""


class InvalidNumber(TownError):
    """A value that should be a number within given bounds is none."""


class NotGood(TownError):
    """Bought signs that should be good are not."""


class NoTown(TownError):
    """What is left when a street is closed is no town."""


class NotOffered(TownError):
    """A sign that should be offered is not."""


class Bought(TownError):
    """A sign is bought already, or given back although it is not bought."""


class NothingToUndo(TownError):
    """No step is left that could be undone."""


class ParseError(TownError):
    """A text is not the text of a town."""
