"""Views: what somebody sees, said without a standing."""

from manysights.checks import check_name
from manysights.errors import NotGrounded, NoViews
from manysights.forms import Node, eyes_node, same_nodes, weighing_node


def check_any(views):
    """Raise NoViews if there are none."""
    if len(views) == 0:
        raise NoViews()


def knowing_view(party, claim):
    """Return the node of the view of whether the party knows a claim, from its node."""
    return Node(("whether",), (Node(("known",), (eyes_node(party), claim)),))


class View:
    """What somebody sees; in each standing it means a sight."""

    def __init__(self, node):
        self.node = node
        self.parts = node.parts

    @property
    def grounded(self):
        """Whether the deals of the view are never alike across pieces."""
        return self.node.is_grounded

    @staticmethod
    def eyes(party):
        """Return what the party sees."""
        return View(eyes_node(party))

    @staticmethod
    def value(fact):
        """Return the view of the digit of a fact."""
        check_name(fact)
        return View(Node(("value", fact), ()))

    @staticmethod
    def whether(claim):
        """Return the view of whether the claim holds."""
        return View(Node(("whether",), (claim.node,)))

    @staticmethod
    def when(claim, view):
        """Return the view that is given where the claim holds, and only there."""
        return View(Node(("when",), (claim.node, view.node)))

    @staticmethod
    def worth(party, terms, *, seen=None):
        """Return the view of what the terms are worth to the party in a cell of `seen`."""
        node = eyes_node(party)
        if seen is not None:
            if not seen.grounded:
                raise NotGrounded(0)
            node = seen.node
        return View(weighing_node("worth", party, node, terms))

    @staticmethod
    def pooled(views):
        """Return what the views tell together."""
        check_any(views)
        if len(views) == 1:
            return views[0]
        return View(Node(("pooled",), [view.node for view in views]))

    @staticmethod
    def common(views):
        """Return what is common to the views."""
        check_any(views)
        for index, view in enumerate(views):
            if not view.grounded:
                raise NotGrounded(index)
        if len(views) == 1:
            return views[0]
        return View(Node(("common",), [view.node for view in views]))

    @staticmethod
    def answer(party, claim):
        """Return the view of what the party answers if it is asked for the claim."""
        yes = knowing_view(party, claim.node)
        no = knowing_view(party, Node(("not",), (claim.node,)))
        return View(Node(("pooled",), (yes, no)))

    def __and__(self, other):
        return View.pooled((self, other))

    def __or__(self, other):
        return View.common((self, other))

    def __eq__(self, other):
        return isinstance(other, View) and same_nodes(self.node, other.node)
