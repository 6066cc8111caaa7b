"""The shortest form of a plain view."""

from manysights.deriving import AlwaysSearch
from manysights.forms import inner_first
from manysights.naming import parties_of
from manysights.plains import Plains, check_plain
from manysights.views import View


class Shortener:
    """Finds shortest forms of plain views, under numbers (see Plains)."""

    def __init__(self):
        self._plains = Plains()
        self._search = AlwaysSearch(self._plains)

    def node_of(self, number):
        """Return the node of a view."""
        return self._plains.node_of(number)

    def eyes_of(self, party):
        """Return the number of the eyes of a party."""
        return self._plains.number_of_row(("eyes", party))

    def shortest_of(self, node, eyes):
        """Return the number of the shortest form of a view.

        The eyes of the parties in `eyes` stand for the views there, which are
        numbers of shortest forms.
        """
        found = {}
        for inner in inner_first((node,)):
            if inner.label[0] != "eyes":
                members = [found[member] for member in inner.inner]
                found[inner] = self.shortest_group(inner.label[0], members)
            elif inner.label[1] in eyes:
                found[inner] = eyes[inner.label[1]]
            else:
                found[inner] = self.eyes_of(inner.label[1])
        return found[node]

    def shortest_group(self, word, numbers):
        """Return the number of the shortest form of a group of views in shortest form."""
        members = self._opened(word, numbers)
        fewer = self._lowered(word, members)
        while fewer != members:
            members = self._opened(word, fewer)
            fewer = self._lowered(word, members)
        return self._joined(word, self._needed(word, members))

    def _opened(self, word, members):
        """Return the members with those of the same word replaced by what is in them."""
        found = []
        for member in members:
            inner, inside = self._plains.rows[member]
            found.extend(inside if inner == word else (member,))
        return found

    def _joined(self, word, members):
        """Return the number of the view with these members, in order."""
        if len(members) == 1:
            return members[0]
        ordered = sorted(members, key=self._plains.rank)
        return self._plains.number_of_row((word, tuple(ordered)))

    def _goes(self, word, one, two):
        """Tell whether `two` tells `one`, if the word is pooled, or `one` tells `two`."""
        if word == "pooled":
            one, two = two, one
        return self._search.look(one, two, 0) is not None

    def _lowered(self, word, members):
        """Return the members, one of them replaced by what is in it if that changes nothing."""
        whole = self._joined(word, members)
        for place, member in enumerate(members):
            inner, inside = self._plains.rows[member]
            if inner != "eyes":
                for part in inside:
                    if self._goes(word, part, whole):
                        return members[:place] + [part] + members[place + 1:]
        return members

    def _needed(self, word, members):
        """Return the members without those that add nothing to another one."""
        found = list({member: True for member in members})
        for member in list(found):
            rest = [other for other in found if other != member]
            if any([self._goes(word, member, other) for other in rest]):
                found = rest
        return found


def shortest(view):
    """Return the view in shortest form that is always alike to the view."""
    check_plain((view,))
    shortener = Shortener()
    return View(shortener.node_of(shortener.shortest_of(view.node, {})))


def is_shortest(view):
    """Tell whether the view is in shortest form."""
    return shortest(view) == view


def needed_parties(view):
    """Return the parties without whose eyes no view is always alike to this one."""
    return parties_of((shortest(view).node,))
