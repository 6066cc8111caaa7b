"""Deeds: what changes a standing, said without a standing."""

from manysights.checks import check_name, is_digit
from manysights.claims import Claim
from manysights.errors import BadSource, TakenName


def lesson_parts(lessons):
    """Return the lessons with the parts of their views."""
    found = []
    for party, view in lessons:
        check_name(party)
        found.append((party, view.parts))
    return tuple(found)


def case_parts(index, cases):
    """Return the cases of the setting with this index, with the parts of their claims."""
    found = []
    for claim, source in cases:
        if not is_digit(source):
            if not isinstance(source, str):
                raise BadSource(index)
            check_name(source)
        found.append((claim.parts, source))
    return tuple(found)


def setting_parts(settings):
    """Return the settings with the parts of their claims."""
    found = []
    taken = {}
    for index, (fact, cases) in enumerate(settings):
        check_name(fact)
        if fact in taken:
            raise TakenName(fact)
        taken[fact] = True
        found.append((fact, case_parts(index, cases)))
    return tuple(found)


class Deed:
    """What changes a standing, while all parties know that it is done."""

    def __init__(self, parts):
        self.parts = parts

    @staticmethod
    def show(lessons):
        """Return the deed that shows views to parties."""
        return Deed(("show", lesson_parts(lessons)))

    @staticmethod
    def announce(view):
        """Return the deed that shows the view to every party."""
        return Deed(("announce", view.parts))

    @staticmethod
    def call(claim):
        """Return the deed that tells all that the claim holds."""
        return Deed(("call", claim.parts))

    @staticmethod
    def change(settings):
        """Return the deed that gives facts other digits."""
        return Deed(("change", setting_parts(settings)))

    @staticmethod
    def forget(party, view):
        """Return the deed after which the party keeps only what the view tells too."""
        check_name(party)
        return Deed(("forget", party, view.parts))

    @staticmethod
    def row(deeds):
        """Return the deed that does the deeds in order."""
        return Deed(("row", tuple([deed.parts for deed in deeds])))

    @staticmethod
    def exchange(fact, other):
        """Return the deed that exchanges the digits of two facts."""
        always = Claim.always()
        return Deed.change(((fact, ((always, other),)), (other, ((always, fact),))))

    def __rshift__(self, other):
        return Deed.row((self, other))

    def __eq__(self, other):
        return isinstance(other, Deed) and self.parts == other.parts
