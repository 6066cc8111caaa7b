"""Derivations under customs, and standings that keep customs.

A custom is here a pair of the node of its view and the name of its party.
"""

from manysights.deriving import step
from manysights.plains import Plains


class CustomSearch:
    """Looks for derivations under customs, those with fewer tuples within each other first.

    It goes through the pairs of views in rounds. In a round it finds what can
    be derived with as many tuples within each other as the number of the round.
    """

    def __init__(self, plains, customs):
        self.rows = plains.rows
        self._customs = customs
        self._found = {}
        self._depths = {}
        self._depth = 0

    def look(self, one, two, levels):
        """Return a derivation that fits in so many more tuples, or None."""
        if self._depths.get((one, two), self._depth) > self._depth - levels:
            return None
        return self._found[(one, two)]

    def _step_by(self, one, two):
        """Return a derivation by a custom, or None."""
        for index, (view, eyes) in enumerate(self._customs):
            first = self.look(one, view, 1)
            if first is not None:
                second = self.look(eyes, two, 1)
                if second is not None:
                    return ("by", index, first, second)
        return None

    def _round(self, pairs):
        """Find what can be derived with one more tuple; tell whether anything was found."""
        self._depth += 1
        fresh = []
        for one, two in pairs:
            if (one, two) not in self._found:
                value = step(self, one, two)
                if value is None:
                    value = self._step_by(one, two)
                if value is not None:
                    fresh.append((one, two, value))
        for one, two, value in fresh:
            self._found[(one, two)] = value
            self._depths[(one, two)] = self._depth
        return len(fresh) > 0

    def search(self, one, two, pairs):
        """Return a derivation that `one` tells `two`, or None, going through the pairs."""
        # A form can stand two tuples deeper than what is in it.
        idle = 0
        while idle < 2 and (one, two) not in self._found:
            idle = 0 if self._round(pairs) else idle + 1
        return self._found.get((one, two))


def derivation_under(customs, one, two):
    """Return a derivation under the customs that `one` tells `two`, or None."""
    plains = Plains()
    left, right = plains.number_of(one), plains.number_of(two)
    lefts, rights = plains.inside_of(left), plains.inside_of(right)
    numbers = []
    for view, party in customs:
        told, eyes = plains.number_of(view), plains.number_of_row(("eyes", party))
        numbers.append((told, eyes))
        lefts = lefts + [eyes]
        rights = rights + plains.inside_of(told)
    highs = sorted(set(rights))
    pairs = [(low, high) for low in sorted(set(lefts)) for high in highs]
    return CustomSearch(plains, numbers).search(left, right, pairs)
