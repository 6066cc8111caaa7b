"""Claims: what holds or does not hold at a deal, said without a standing."""

from manysights.checks import check_name, is_digit
from manysights.errors import BadDigit, NotGrounded
from manysights.forms import ALWAYS, eyes_parts, term_parts


class Claim:
    """What holds or does not hold at each open deal of a standing."""

    def __init__(self, parts):
        self.parts = parts

    @staticmethod
    def always():
        """Return the claim that holds everywhere."""
        return Claim(ALWAYS)

    @staticmethod
    def fact(name, digit):
        """Return the claim that the fact has this digit."""
        check_name(name)
        if not is_digit(digit):
            raise BadDigit(0)
        return Claim(("fact", name, digit))

    @staticmethod
    def known(view, claim):
        """Return the claim that who sees the view knows the claim."""
        if not view.grounded:
            raise NotGrounded(0)
        return Claim(("known", view.parts, claim.parts))

    @staticmethod
    def weighs(party, view, terms):
        """Return the claim that the terms weigh at least zero for the party in a cell."""
        check_name(party)
        if not view.grounded:
            raise NotGrounded(0)
        return Claim(("weighs", party, view.parts, term_parts(terms)))

    @staticmethod
    def all_of(claims):
        """Return the claim that all claims hold."""
        if len(claims) == 0:
            return Claim(ALWAYS)
        if len(claims) == 1:
            return claims[0]
        return Claim(("and", tuple([claim.parts for claim in claims])))

    @staticmethod
    def any_of(claims):
        """Return the claim that at least one claim holds."""
        if len(claims) == 0:
            return Claim(("not", ALWAYS))
        if len(claims) == 1:
            return claims[0]
        return Claim(("or", tuple([claim.parts for claim in claims])))

    @staticmethod
    def knows(party, claim):
        """Return the claim that the party knows the claim."""
        return Claim(("known", eyes_parts(party), claim.parts))

    @staticmethod
    def likely(party, claim, top, bottom):
        """Return the claim that the party holds the claim at least as likely as top to bottom."""
        terms = ((bottom, claim.parts), (-top, ALWAYS))
        return Claim(("weighs", party, eyes_parts(party), terms))

    @staticmethod
    def gains(party, terms):
        """Return the claim that the terms are worth more than zero to the party."""
        opposite = tuple([(-number, parts) for number, parts in term_parts(terms)])
        return Claim(("not", ("weighs", party, eyes_parts(party), opposite)))

    def __invert__(self):
        return Claim(("not", self.parts))

    def __and__(self, other):
        return Claim.all_of((self, other))

    def __or__(self, other):
        return Claim.any_of((self, other))

    def __eq__(self, other):
        return isinstance(other, Claim) and self.parts == other.parts
