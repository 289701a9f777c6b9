"""Drives, their lengths, and what bars them."""

from quietstreets.errors import InvalidDrive, InvalidSign
from quietstreets.signs import bar_drive, is_sign
from quietstreets.streets import direction_lengths, goes_along
from quietstreets.towns import require_signs, require_town


def is_drive(town, value):
    """Whether value is a drive of the town."""
    require_town(town)
    return goes_along(town[1], value)


def drive_length(town, drive):
    """The sum of the lengths of the streets of the drive, each as often as it goes through it."""
    require_town(town)
    require_drive(town, drive)
    lengths = direction_lengths(town[1])
    return sum([lengths[direction] for direction in zip(drive, drive[1:])])


def bars(town, sign, drive):
    """Whether the sign, standing or not, bars the drive."""
    require_town(town)
    require_sign(town, sign)
    require_drive(town, drive)
    return bar_drive((sign,), drive)


def is_free(town, signs, drive):
    """Whether neither a standing sign nor one of these bars the drive."""
    require_town(town)
    require_signs(town, signs)
    require_drive(town, drive)
    return not bar_drive(town[2] + signs, drive)


def require_sign(town, value):
    """Raises InvalidSign if value is not a sign of the streets of the town."""
    if not is_sign(town[1], value):
        raise InvalidSign("not a sign of the streets")


def require_drive(town, value):
    """Raises InvalidDrive if value is not a drive of the town."""
    if not goes_along(town[1], value):
        raise InvalidDrive("not a drive")
