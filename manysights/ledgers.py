"""Ledgers: a standing with the deeds that were entered, and blocks of them."""

from manysights.deeds import Deed
from manysights.doing import after
from manysights.errors import DealError, NothingToUndo, Stopped, TooManyDeeds


class Ledger:
    """A standing and the deeds that were entered.

    All that changes is one tuple, `held`: the standings before and after the
    deeds, the deeds, `most`, and how many deeds stood when the innermost open
    block began. So a block can bring back what was by one assignment.
    """

    def __init__(self, standing, *, most=20):
        self.held = ((standing,), (), most, 0)

    @property
    def present(self):
        """The standing after all deeds that stand."""
        return self.held[0][-1]

    @property
    def deeds(self):
        """The deeds that stand, in order."""
        return self.held[1]

    @property
    def most(self):
        """How many deeds may be entered."""
        return self.held[2]

    @most.setter
    def most(self, number):
        standings, deeds, _, begun = self.held
        if number < len(deeds):
            raise TooManyDeeds(number)
        self.held = (standings, deeds, number, begun)

    def __len__(self):
        return len(self.held[1])

    def enter(self, deed):
        """Do a deed."""
        standings, deeds, most, begun = self.held
        if len(deeds) >= most:
            raise TooManyDeeds(most)
        end = after(standings[-1], deed)
        self.held = ((*standings, end), (*deeds, deed), most, begun)

    def undo(self):
        """Take back the last deed."""
        standings, deeds, most, begun = self.held
        if len(deeds) <= begun:
            raise NothingToUndo()
        self.held = (standings[:-1], deeds[:-1], most, begun)


class Trial:
    """A block whose deeds are taken back when it is left."""

    def __init__(self, ledger):
        self._ledger = ledger
        self._held = ledger.held

    def __enter__(self):
        ledger = self._ledger
        standings, deeds, most, _ = ledger.held
        self._held = ledger.held
        ledger.held = (standings, deeds, most, len(deeds))
        return ledger

    def __exit__(self, kind, value, trace):
        ledger = self._ledger
        ledger.held = self._held


class Supposing:
    """A block that begins with the call of a claim; all is taken back when it is left."""

    def __init__(self, ledger, claim):
        self._ledger = ledger
        self._claim = claim
        self._held = ledger.held

    def __enter__(self):
        ledger = self._ledger
        standings, deeds, most, _ = ledger.held
        call = Deed.call(self._claim)
        end = after(standings[-1], call)
        self._held = ledger.held
        ledger.held = ((*standings, end), (*deeds, call), most, len(deeds) + 1)
        return ledger

    def __exit__(self, kind, value, trace):
        ledger = self._ledger
        ledger.held = self._held


def do_block(ledger, steps, found, standing):
    """Do the steps inside of a block; the standing is the one that comes back after it."""
    try:
        do_steps(ledger, steps, found)
    finally:
        found.append(standing)


def do_trial(ledger, steps, found):
    """Do the steps in a block."""
    standing = ledger.present
    with Trial(ledger):
        do_block(ledger, steps, found, standing)


def do_supposing(ledger, claim, steps, found):
    """Do the steps in a block that begins with the call of the claim."""
    standing = ledger.present
    with Supposing(ledger, claim):
        do_block(ledger, steps, found, standing)


def do_single(ledger, step):
    """Do a step that has no steps in it."""
    if step[0] == "enter":
        ledger.enter(step[1])
    elif step[0] == "undo":
        ledger.undo()
    elif step[0] == "most":
        ledger.most = step[1]
    else:
        raise Stopped(step[1])


def do_steps(ledger, steps, found):
    """Do the steps in order, noting the standings in `found`."""
    for step in steps:
        if step[0] == "trial":
            do_trial(ledger, step[1], found)
        elif step[0] == "suppose":
            do_supposing(ledger, step[1], step[2], found)
        elif step[0] == "try":
            try:
                do_steps(ledger, step[1], found)
            except DealError:
                pass
            found.append(ledger.present)
        else:
            do_single(ledger, step)
            found.append(ledger.present)


def perform(ledger, steps):
    """Do the steps in order, and return the standings at the moments that count."""
    found = []
    do_steps(ledger, steps, found)
    return tuple(found)
