"""Plain views that tell more than a given one, but still not all that another one tells.

Few deals are enough to show that a thin view does not tell the other one, and
then the given view, which the thin one tells, does not tell it either.
"""

from manysights.deriving import AlwaysSearch
from manysights.plains import Plains


class Thinning:
    """Takes members away from common views as long as the whole view does not tell the other one.

    A place in the whole view is a list of triples (word, members, index), from
    the outermost group to the innermost one.
    """

    def __init__(self, other):
        self._plains = Plains()
        self._search = AlwaysSearch(self._plains)
        self._other = self._plains.number_of(other)

    def _group(self, word, members):
        """Return the number of the group of these members, or of the only one."""
        return members[0] if len(members) == 1 else self._plains.number_of_row((word, tuple(members)))

    def _parts_at(self, place, number):
        """Tell whether the whole view does not tell the other one, with this view at a place."""
        for word, members, index in place[::-1]:
            number = self._group(word, members[:index] + [number] + members[index + 1:])
        return self._search.look(number, self._other, 0) is None

    def _fewer(self, members, place):
        """Return as few of the members of a common view at a place as are found to be enough."""
        for member in members:
            if self._parts_at(place, member):
                return [member]
        found = list(members)
        for member in members:
            rest = [one for one in found if one != member]
            if self._parts_at(place, self._group("common", rest)):
                found = rest
        return found

    def _thin_at(self, place, number):
        """Return the number of a thin view for the one at a place."""
        word, inside = self._plains.rows[number]
        if word == "eyes":
            return number
        members = list(inside)
        if word == "common":
            members = self._fewer(members, place)
        for index in range(len(members)):
            members[index] = self._thin_at(place + [(word, list(members), index)], members[index])
        return self._group(word, members)

    def thin(self, node):
        """Return the node of a thin view for a view that does not tell the other one."""
        return self._plains.node_of(self._thin_at([], self._plains.number_of(node)))
