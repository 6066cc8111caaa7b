"""Answers about one table: what is asked, what is sure, and why something is not known."""

from manysights.chains import first_chain
from manysights.errors import NotGrounded
from manysights.meanings import known_truths, meaning_of, meanings_of
from manysights.naming import check_names, check_party, facts_of, parties_of


class Asker:
    """Asks one party of a standing whether claims hold."""

    def __init__(self, standing, party):
        check_party(standing, party)
        self._standing = standing
        self._party = party

    def __call__(self, claim, deal):
        check_names(self._standing, (claim.node,))
        place = self._standing.position(deal)
        sight = self._standing.sight(self._party)
        truths = meaning_of(self._standing, claim.node)
        if known_truths(sight, truths)[place]:
            return "yes"
        if known_truths(sight, [not holding for holding in truths])[place]:
            return "no"
        return "unsure"


def verdict(standing, claim):
    """Return whether the claim is sure, never true or open in the standing."""
    check_names(standing, (claim.node,))
    truths = meaning_of(standing, claim.node)
    if all(truths):
        return "sure"
    return "open" if any(truths) else "never"


class Reason:
    """Why who sees a view knows a claim at a deal, or does not know it."""

    def __init__(self, is_known, cell, chain):
        self.is_known = is_known
        self.cell = cell
        self.chain = chain


def reason(standing, view, claim, deal):
    """Return why who sees the view knows the claim at the deal, or does not know it."""
    check_names(standing, (view.node, claim.node))
    place = standing.position(deal)
    if not view.grounded:
        raise NotGrounded(0)
    members = view.node.inner if view.node.label[0] == "common" else (view.node,)
    sight, truths, *sights = meanings_of(standing, (view.node, claim.node, *members))
    places = sight.cell_of(place)
    wrong = [other for other in places if not truths[other]]
    cell = tuple([standing.deals[other] for other in places])
    if not wrong:
        return Reason(True, cell, None)
    steps = first_chain(sights, place, wrong)
    return Reason(False, cell, tuple([(index, standing.deals[other]) for index, other in steps]))


def view_names(view):
    """Return the names of the parties and those of the facts in a view."""
    return (parties_of((view.node,)), facts_of((view.node,)))


def claim_names(claim):
    """Return the names of the parties and those of the facts in a claim."""
    return (parties_of((claim.node,)), facts_of((claim.node,)))
