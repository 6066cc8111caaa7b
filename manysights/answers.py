"""Answers about one table: what is asked, what is sure, and why something is not known."""

from manysights.chains import first_chain
from manysights.errors import NotGrounded
from manysights.meanings import known_truths, part_sight, part_truths
from manysights.naming import check_names, check_party, facts_of, parties_of


class Asker:
    """Asks one party of a standing whether claims hold."""

    def __init__(self, standing, party):
        check_party(standing, party)
        self._standing = standing
        self._party = party

    def __call__(self, claim, deal):
        check_names(self._standing, claim.parts)
        place = self._standing.position(deal)
        sight = self._standing.sight(self._party)
        truths = part_truths(self._standing, claim.parts)
        if known_truths(sight, truths)[place]:
            return "yes"
        if known_truths(sight, [not holding for holding in truths])[place]:
            return "no"
        return "unsure"


def verdict(standing, claim):
    """Return whether the claim is sure, never true or open in the standing."""
    check_names(standing, claim.parts)
    truths = part_truths(standing, claim.parts)
    if all(truths):
        return "sure"
    return "open" if any(truths) else "never"


class Reason:
    """Why who sees a view knows a claim at a deal, or does not know it."""

    def __init__(self, is_known, cell, chain):
        self.is_known = is_known
        self.cell = cell
        self.chain = chain


def reason(standing, view, claim, deal):
    """Return why who sees the view knows the claim at the deal, or does not know it."""
    check_names(standing, view.parts)
    check_names(standing, claim.parts)
    place = standing.position(deal)
    if not view.grounded:
        raise NotGrounded(0)
    places = part_sight(standing, view.parts).cell_of(place)
    truths = part_truths(standing, claim.parts)
    wrong = [other for other in places if not truths[other]]
    cell = tuple([standing.deals[other] for other in places])
    if not wrong:
        return Reason(True, cell, None)
    members = view.parts[1] if view.parts[0] == "common" else (view.parts,)
    sights = [part_sight(standing, member) for member in members]
    steps = first_chain(sights, place, wrong)
    return Reason(False, cell, tuple([(index, standing.deals[other]) for index, other in steps]))


def view_names(view):
    """Return the names of the parties and those of the facts in a view."""
    return (parties_of(view.parts), facts_of(view.parts))


def claim_names(claim):
    """Return the names of the parties and those of the facts in a claim."""
    return (parties_of(claim.parts), facts_of(claim.parts))
