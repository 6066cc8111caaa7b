"""Webs: who promises what to whom, and what each party has of its own."""

from manysights.checks import is_whole
from manysights.errors import BadNote, BadPurse, TakenName


def check_notes(notes):
    """Raise BadNote for the first note with a wrong amount."""
    for index, note in enumerate(notes):
        if not is_whole(note[3]) or not 1 <= note[3] <= 99:
            raise BadNote(index)


def check_purses(purses):
    """Raise BadPurse for the first purse with a wrong number, then TakenName for a second purse of a party."""
    for index, (_, number) in enumerate(purses):
        if not is_whole(number) or not 0 <= number <= 999:
            raise BadPurse(index)
    taken = {}
    for party, _ in purses:
        if party in taken:
            raise TakenName(party)
        taken[party] = True


class Web:
    """Notes (issuer, holder, claim, amount) and purses (party, number)."""

    def __init__(self, notes, purses):
        check_notes(notes)
        check_purses(purses)
        self.notes = tuple([tuple(note) for note in notes])
        self.purses = tuple([tuple(purse) for purse in purses])
