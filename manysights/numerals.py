"""Whole numbers of any size as decimal digits."""

from manysights.checks import DIGITS

# Python itself turns only so many digits into a number at once, and back.
STEP = 64


def decimal(number):
    """Return the decimal digits of a whole number, with a minus in front if it is negative."""
    rest, groups = abs(number), []
    while rest >= 10 ** 64:
        rest, group = divmod(rest, 10 ** 64)
        groups.append(str(group).zfill(STEP))
    groups.append(str(rest))
    sign = "-" if number < 0 else ""
    return sign + "".join(groups[::-1])


def natural(text):
    """Return the whole number of at least 0 whose decimal digits the text is, or None."""
    if not text or not all([sign in DIGITS for sign in text]) or (text[0] == "0" and text != "0"):
        return None
    first = len(text) % STEP
    number = int("0" + text[:first])
    for place in range(first, len(text), STEP):
        number = number * 10 ** 64 + int(text[place:place + STEP])
    return number


def naturals(texts):
    """Return the whole numbers of at least 0 that the texts are, or None if one is none."""
    found = [natural(text) for text in texts]
    return None if None in found else found
