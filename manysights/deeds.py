"""Deeds: what changes a standing, said without a standing."""

from manysights.checks import check_name, is_digit
from manysights.claims import Claim
from manysights.errors import BadSource, TakenName
from manysights.forms import Node, same_nodes


def checked_lessons(lessons):
    """Return the parties and the nodes of the views of lessons."""
    parties, views = [], []
    for party, view in lessons:
        check_name(party)
        parties.append(party)
        views.append(view.node)
    return (tuple(parties), views)


def checked_sources(index, cases):
    """Return the sources of the setting with this index."""
    found = []
    for _, source in cases:
        if not is_digit(source):
            if not isinstance(source, str):
                raise BadSource(index)
            check_name(source)
        found.append(source)
    return tuple(found)


def checked_settings(settings):
    """Return pairs of facts and sources, and the nodes of all claims."""
    found, claims = [], []
    taken = {}
    for index, (fact, cases) in enumerate(settings):
        check_name(fact)
        if fact in taken:
            raise TakenName(fact)
        taken[fact] = True
        found.append((fact, checked_sources(index, cases)))
        claims.extend([claim.node for claim, _ in cases])
    return (tuple(found), claims)


class Deed:
    """What changes a standing, while all parties know that it is done."""

    def __init__(self, node):
        self.node = node
        self.parts = node.parts

    @staticmethod
    def show(lessons):
        """Return the deed that shows views to parties."""
        parties, views = checked_lessons(lessons)
        return Deed(Node(("show", parties), views))

    @staticmethod
    def announce(view):
        """Return the deed that shows the view to every party."""
        return Deed(Node(("announce",), (view.node,)))

    @staticmethod
    def call(claim):
        """Return the deed that tells all that the claim holds."""
        return Deed(Node(("call",), (claim.node,)))

    @staticmethod
    def change(settings):
        """Return the deed that gives facts other digits."""
        found, claims = checked_settings(settings)
        return Deed(Node(("change", found), claims))

    @staticmethod
    def forget(party, view):
        """Return the deed after which the party keeps only what the view tells too."""
        check_name(party)
        return Deed(Node(("forget", party), (view.node,)))

    @staticmethod
    def row(deeds):
        """Return the deed that does the deeds in order."""
        return Deed(Node(("row",), [deed.node for deed in deeds]))

    @staticmethod
    def exchange(fact, other):
        """Return the deed that exchanges the digits of two facts."""
        always = Claim.always()
        return Deed.change(((fact, ((always, other),)), (other, ((always, fact),))))

    def __rshift__(self, other):
        return Deed.row((self, other))

    def __eq__(self, other):
        return isinstance(other, Deed) and same_nodes(self.node, other.node)
