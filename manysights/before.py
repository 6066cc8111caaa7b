"""What will be seen and what will hold after a deed, said before it."""

from manysights.checks import check_name
from manysights.claims import Claim
from manysights.errors import UnknownParty
from manysights.leading import node_before
from manysights.naming import PARTY, names_of
from manysights.views import View


def check_listed(nodes, parties):
    """Raise an error for a string that is no name, or for a party that is not listed."""
    for name in parties:
        check_name(name)
    for kind, name in names_of(nodes):
        if kind == PARTY and name not in parties:
            raise UnknownParty(name)


def view_before(view, deed, *, parties):
    """Return a view that says before the deed what this view says after it."""
    check_listed((view.node, deed.node), parties)
    return View(node_before(view.node, (deed.node,), parties))


def claim_before(claim, deed, *, parties):
    """Return a claim that says before the deed what this claim says after it."""
    check_listed((claim.node, deed.node), parties)
    return Claim(node_before(claim.node, (deed.node,), parties))
