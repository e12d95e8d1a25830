"""Checks of arguments that several modules share: they raise the error, or do nothing."""

from betweenlists.errors import InvalidName, InvalidNumber, InvalidPlace
from betweenlists.kinds import is_name, is_place, is_whole


def check_name(value):
    """Raises InvalidName unless the value is a name."""
    if not is_name(value):
        raise InvalidName(value)


def check_place(value):
    """Raises InvalidPlace unless the value is a place."""
    if not is_place(value):
        raise InvalidPlace(value)


def check_least(value, least):
    """Raises InvalidNumber unless the value is a whole number of at least this."""
    if not (is_whole(value) and value >= least):
        raise InvalidNumber(value)


def check_index(value, many):
    """Raises InvalidNumber unless the value is the index of one of so many items."""
    if not (is_whole(value) and 0 <= value < many):
        raise InvalidNumber(value)
