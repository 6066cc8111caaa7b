"""The written forms of webs."""

from manysights.checks import is_name
from manysights.errors import BadLine, BadText
from manysights.numerals import natural
from manysights.termforms import format_claim, parse_claim
from manysights.webs import Web


def format_web(web):
    """Return the written form of a web."""
    lines = []
    for issuer, holder, claim, amount in web.notes:
        lines.append(f"note {issuer} {holder} {amount} {format_claim(claim)}")
    lines.extend([f"purse {party} {number}" for party, number in web.purses])
    return "\n".join(lines)


def note_in(line):
    """Return the note that the line is, or None."""
    words = line.split(" ", 4)
    if len(words) != 5 or words[0] != "note" or not is_name(words[1]) or not is_name(words[2]):
        return None
    amount = natural(words[3])
    if amount is None or not 1 <= amount <= 99:
        return None
    try:
        return (words[1], words[2], parse_claim(words[4]), amount)
    except BadText:
        return None


def purse_in(line, purses):
    """Return the purse that the line is, or None; the purses stand there before."""
    words = line.split(" ")
    if len(words) != 3 or words[0] != "purse" or not is_name(words[1]):
        return None
    number = natural(words[2])
    if number is None or number > 999 or words[1] in [party for party, _ in purses]:
        return None
    return (words[1], number)


def parse_web(text):
    """Return the web whose written form the text is."""
    notes, purses = [], []
    lines = text.split("\n") if text else []
    for index, line in enumerate(lines):
        note = None if purses else note_in(line)
        purse = purse_in(line, purses)
        if note is not None:
            notes.append(note)
        elif purse is not None:
            purses.append(purse)
        else:
            raise BadLine(index)
    return Web(notes, purses)
