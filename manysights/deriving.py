"""Derivations that one plain view tells another one.

A custom is here a pair of the node of its view and the name of its party.
"""

from manysights.checks import is_whole
from manysights.forms import Node


def step(search, one, two):
    """Return a derivation that `one` tells `two` whose inner ones the search has, or None.

    The views are numbers of rows of the search (see Plains). The search is
    also told how many tuples stand around an inner derivation.
    """
    word, inside = search.rows[one]
    other, within = search.rows[two]
    if word == "eyes" and one == two:
        return ("same",)
    if word == "common":
        inner = [search.look(member, two, 2) for member in inside]
        if None not in inner:
            return ("from each", tuple(inner))
    if other == "pooled":
        inner = [search.look(one, member, 2) for member in within]
        if None not in inner:
            return ("to each", tuple(inner))
    if word == "pooled":
        for index, member in enumerate(inside):
            value = search.look(member, two, 1)
            if value is not None:
                return ("from", index, value)
    if other == "common":
        for index, member in enumerate(within):
            value = search.look(one, member, 1)
            if value is not None:
                return ("to", index, value)
    return None


class AlwaysSearch:
    """Looks for derivations that hold in every standing.

    Each pair of views is looked at once: there can be many ways down to the
    eyes, but there are few pairs on them.
    """

    def __init__(self, plains):
        self.rows = plains.rows
        self._found = {}

    def look(self, one, two, _):
        """Return a derivation that `one` always tells `two`, or None."""
        if (one, two) not in self._found:
            self._found[(one, two)] = step(self, one, two)
        return self._found[(one, two)]


def is_index(value, members):
    """Tell whether the value is an index of the members."""
    return is_whole(value) and 0 <= value < len(members)


def inner_of_each(one, two, word, values):
    """Return what the values must be for a form with one for each member, or None."""
    if not isinstance(values, (list, tuple)):
        return None
    if word == "from each" and one.label[0] == "common" and len(values) == len(one.inner):
        return [(member, two, value) for member, value in zip(one.inner, values)]
    if word == "to each" and two.label[0] == "pooled" and len(values) == len(two.inner):
        return [(one, member, value) for member, value in zip(two.inner, values)]
    return None


def inner_of_index(one, two, word, index, value):
    """Return what the value must be for a form with one member, or None."""
    if word == "from" and one.label[0] == "pooled" and is_index(index, one.inner):
        return [(one.inner[index], two, value)]
    if word == "to" and two.label[0] == "common" and is_index(index, two.inner):
        return [(one, two.inner[index], value)]
    return None


def inner_of(customs, one, two, form):
    """Return triples (one, two, value) of what the values inside must be, or None.

    None says that the form itself is not right.
    """
    if not isinstance(form, (list, tuple)):
        return None
    if len(form) == 1 and form[0] == "same" and one.label[0] == "eyes" and one.label == two.label:
        return []
    if len(form) == 2:
        return inner_of_each(one, two, form[0], form[1])
    if len(form) == 3:
        return inner_of_index(one, two, form[0], form[1], form[2])
    if len(form) == 4 and form[0] == "by" and is_index(form[1], customs):
        view, party = customs[form[1]]
        return [(one, view, form[2]), (Node(("eyes", party), ()), two, form[3])]
    return None


def is_right(customs, one, two, form):
    """Tell whether the form is a derivation under the customs that `one` tells `two`."""
    waiting = [(one, two, form)]
    while waiting:
        left, right, value = waiting.pop()
        inner = inner_of(customs, left, right, value)
        if inner is None:
            return False
        waiting.extend(inner)
    return True
