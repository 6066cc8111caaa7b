"""Plain views: views that are made of eyes by pooled and common alone."""

from manysights.errors import NotPlain
from manysights.forms import Node, inner_first

PLAIN = ("eyes", "pooled", "common")


def is_plain(node):
    """Tell whether the view is plain."""
    return all([inner.label[0] in PLAIN for inner in inner_first((node,))])


def check_plain(views):
    """Raise NotPlain if one of the views is not plain."""
    for view in views:
        if not is_plain(view.node):
            raise NotPlain()


def combined(word, sights):
    """Return what the sights tell together if the word is pooled, or what is common to them."""
    sight = sights[0]
    for other in sights[1:]:
        sight = sight & other if word == "pooled" else sight | other
    return sight


def plain_sight(node, sights):
    """Return the sight that a plain view means if the parties have these sights."""
    found = {}
    for inner in inner_first((node,)):
        word = inner.label[0]
        if word == "eyes":
            found[inner] = sights[inner.label[1]]
        else:
            found[inner] = combined(word, [found[member] for member in inner.inner])
    return found[node]


class Plains:
    """Plain views under numbers; equal views have the same number.

    The row of a number is the word of the view and what stands in it: the
    party, or the tuple of the numbers of the members, which are all less.
    """

    def __init__(self):
        self.rows = []
        self.eyes_counts = []
        self._numbers = {}
        self._nodes = []
        self._texts = {}

    def number_of(self, node):
        """Return the number of a view, a new one if it is new."""
        found = {}
        for inner in inner_first((node,)):
            row = inner.label
            if row[0] != "eyes":
                row = (row[0], tuple([found[member] for member in inner.inner]))
            found[inner] = self.number_of_row(row)
        return found[node]

    def number_of_row(self, row):
        """Return the number of the view with this row, a new one if it is new."""
        if row not in self._numbers:
            self._numbers[row] = len(self.rows)
            self.rows.append(row)
            if row[0] == "eyes":
                self._nodes.append(Node(row, ()))
                self.eyes_counts.append(1)
            else:
                self._nodes.append(Node(row[:1], [self._nodes[member] for member in row[1]]))
                self.eyes_counts.append(sum([self.eyes_counts[member] for member in row[1]]))
        return self._numbers[row]

    def node_of(self, number):
        """Return the node of the view with this number."""
        return self._nodes[number]

    def text_of(self, number):
        """Return the written form of the view with this number."""
        word, inside = self.rows[number]
        if word == "eyes":
            return f"eyes({inside})"
        if number not in self._texts:
            sign = " & " if word == "pooled" else " | "
            self._texts[number] = "(" + sign.join([self.text_of(member) for member in inside]) + ")"
        return self._texts[number]

    def rank(self, number):
        """Return the place of a view in the order of plain views."""
        return (self.eyes_counts[number], self.text_of(number))

    def inside_of(self, number):
        """Return the numbers of the view and of all views in it, each once."""
        found = {number: True}
        waiting = [number]
        while waiting:
            word, inside = self.rows[waiting.pop()]
            if word != "eyes":
                waiting.extend([member for member in inside if member not in found])
                found.update({member: True for member in inside})
        return list(found)
