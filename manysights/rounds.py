"""Deeds that are repeated for ever."""

from manysights.doing import after_singles, singles_of
from manysights.meanings import meaning_of
from manysights.naming import check_names
from manysights.states import check_calls, nodes_of


class Rounds:
    """The standings after whole rounds, up to the last one before a standing comes again."""

    def __init__(self, standings, back):
        self.standings = standings
        self.back = back

    def standing_after(self, count):
        """Return the standing after this number of rounds."""
        if count < len(self.standings):
            return self.standings[count]
        return self.standings[self.back + (count - self.back) % (len(self.standings) - self.back)]


def rounds(standing, deeds):
    """Return what comes when the deeds are done again and again."""
    check_names(standing, nodes_of(deeds))
    check_calls(deeds)
    singles = singles_of(nodes_of(deeds))
    standings = []
    numbers = {}
    while standing.key not in numbers:
        numbers[standing.key] = len(standings)
        standings.append(standing)
        standing, _ = after_singles(standing, singles)
    return Rounds(tuple(standings), numbers[standing.key])


def truths_at(repeated, claim, deal):
    """Return for each of the standings whether the claim holds at the deal."""
    check_names(repeated.standings[0], (claim.node,))
    place = repeated.standings[0].position(deal)
    return [meaning_of(standing, claim.node)[place] for standing in repeated.standings]


def holds_from(repeated, claim, deal):
    """Return the least number of rounds from which on the claim holds at the deal, or None."""
    truths = truths_at(repeated, claim, deal)
    if not all(truths[repeated.back:]):
        return None
    count = repeated.back
    while count > 0 and truths[count - 1]:
        count -= 1
    return count


def holds_again(repeated, claim, deal):
    """Tell whether the claim holds at the deal after infinitely many rounds."""
    return any(truths_at(repeated, claim, deal)[repeated.back:])


def first_round(repeated, claim, deal):
    """Return the least number of rounds after which the claim holds at the deal, or None."""
    truths = truths_at(repeated, claim, deal)
    return truths.index(True) if True in truths else None
