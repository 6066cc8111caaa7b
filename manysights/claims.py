"""Claims: what holds or does not hold at a deal, said without a standing."""

from manysights.checks import check_name, is_digit
from manysights.errors import BadDigit, NotGrounded
from manysights.forms import Node, always_node, eyes_node, same_nodes, weighing_node


class Claim:
    """What holds or does not hold at each open deal of a standing."""

    def __init__(self, node):
        self.node = node
        self.parts = node.parts

    @staticmethod
    def always():
        """Return the claim that holds everywhere."""
        return Claim(always_node())

    @staticmethod
    def fact(name, digit):
        """Return the claim that the fact has this digit."""
        check_name(name)
        if not is_digit(digit):
            raise BadDigit(0)
        return Claim(Node(("fact", name, digit), ()))

    @staticmethod
    def known(view, claim):
        """Return the claim that who sees the view knows the claim."""
        if not view.grounded:
            raise NotGrounded(0)
        return Claim(Node(("known",), (view.node, claim.node)))

    @staticmethod
    def weighs(party, view, terms):
        """Return the claim that the terms weigh at least zero for the party in a cell."""
        check_name(party)
        if not view.grounded:
            raise NotGrounded(0)
        return Claim(weighing_node("weighs", party, view.node, terms))

    @staticmethod
    def all_of(claims):
        """Return the claim that all claims hold."""
        if len(claims) == 0:
            return Claim(always_node())
        if len(claims) == 1:
            return claims[0]
        return Claim(Node(("and",), [claim.node for claim in claims]))

    @staticmethod
    def any_of(claims):
        """Return the claim that at least one claim holds."""
        if len(claims) == 0:
            return Claim(Node(("not",), (always_node(),)))
        if len(claims) == 1:
            return claims[0]
        return Claim(Node(("or",), [claim.node for claim in claims]))

    @staticmethod
    def knows(party, claim):
        """Return the claim that the party knows the claim."""
        return Claim(Node(("known",), (eyes_node(party), claim.node)))

    @staticmethod
    def likely(party, claim, top, bottom):
        """Return the claim that the party holds the claim at least as likely as top to bottom."""
        terms = ((bottom, claim), (-top, Claim.always()))
        return Claim(weighing_node("weighs", party, eyes_node(party), terms))

    @staticmethod
    def gains(party, terms):
        """Return the claim that the terms are worth more than zero to the party."""
        opposite = [(-number, claim) for number, claim in terms]
        return Claim(Node(("not",), (weighing_node("weighs", party, eyes_node(party), opposite),)))

    def __invert__(self):
        return Claim(Node(("not",), (self.node,)))

    def __and__(self, other):
        return Claim.all_of((self, other))

    def __or__(self, other):
        return Claim.any_of((self, other))

    def __eq__(self, other):
        return isinstance(other, Claim) and same_nodes(self.node, other.node)
