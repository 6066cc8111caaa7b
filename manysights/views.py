"""Views: what somebody sees, said without a standing."""

from manysights.checks import check_name
from manysights.errors import NotGrounded, NoViews
from manysights.forms import eyes_parts, is_grounded, term_parts


def check_any(views):
    """Raise NoViews if there are none."""
    if len(views) == 0:
        raise NoViews()


def member_parts(views):
    """Return the parts of the views, in order."""
    return tuple([view.parts for view in views])


def knowing_parts(party, claim):
    """Return the parts of the claim that the party knows a claim, from its parts."""
    return ("known", eyes_parts(party), claim)


class View:
    """What somebody sees; in each standing it means a sight."""

    def __init__(self, parts):
        self.parts = parts

    @property
    def grounded(self):
        """Whether the deals of the view are never alike across pieces."""
        return is_grounded(self.parts)

    @staticmethod
    def eyes(party):
        """Return what the party sees."""
        return View(eyes_parts(party))

    @staticmethod
    def value(fact):
        """Return the view of the digit of a fact."""
        check_name(fact)
        return View(("value", fact))

    @staticmethod
    def whether(claim):
        """Return the view of whether the claim holds."""
        return View(("whether", claim.parts))

    @staticmethod
    def when(claim, view):
        """Return the view that is given where the claim holds, and only there."""
        return View(("when", claim.parts, view.parts))

    @staticmethod
    def worth(party, terms, *, seen=None):
        """Return the view of what the terms are worth to the party in a cell of `seen`."""
        parts = eyes_parts(party)
        if seen is not None:
            if not seen.grounded:
                raise NotGrounded(0)
            parts = seen.parts
        return View(("worth", party, parts, term_parts(terms)))

    @staticmethod
    def pooled(views):
        """Return what the views tell together."""
        check_any(views)
        if len(views) == 1:
            return views[0]
        return View(("pooled", member_parts(views)))

    @staticmethod
    def common(views):
        """Return what is common to the views."""
        check_any(views)
        for index, view in enumerate(views):
            if not view.grounded:
                raise NotGrounded(index)
        if len(views) == 1:
            return views[0]
        return View(("common", member_parts(views)))

    @staticmethod
    def answer(party, claim):
        """Return the view of what the party answers if it is asked for the claim."""
        yes = knowing_parts(party, claim.parts)
        no = knowing_parts(party, ("not", claim.parts))
        return View(("pooled", (("whether", yes), ("whether", no))))

    def __and__(self, other):
        return View.pooled((self, other))

    def __or__(self, other):
        return View.common((self, other))

    def __eq__(self, other):
        return isinstance(other, View) and self.parts == other.parts
