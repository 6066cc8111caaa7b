"""What counts as a whole number, a digit and a name."""

from manysights.errors import BadName

LETTERS = "abcdefghijklmnopqrstuvwxyz"
DIGITS = "0123456789"


def is_whole(value):
    """Tell whether the value is a whole number; True and False are none."""
    return isinstance(value, int) and not isinstance(value, bool)


def is_digit(value):
    """Tell whether the value is a whole number from 0 to 9."""
    return is_whole(value) and 0 <= value <= 9


def is_name(value):
    """Tell whether the value is a name of a party or fact."""
    if not isinstance(value, str) or not 1 <= len(value) <= 8:
        return False
    return value[0] in LETTERS and all([sign in LETTERS or sign in DIGITS for sign in value])


def check_name(name):
    """Raise BadName if this is not a name."""
    if not is_name(name):
        raise BadName(name)
