"""Which digits of the facts satisfy fact claims.

A case gives a digit to each fact. Sets of cases are whole numbers: the bit k
stands for the case with the index k.
"""

from manysights.forms import inner_first
from manysights.naming import facts_of

FACT_WORDS = ("always", "fact", "not", "and", "or")


def is_fact_claim(node):
    """Tell whether the claim is made of always, fact, not, and and or alone."""
    return all([inner.label[0] in FACT_WORDS for inner in inner_first((node,))])


def named_digits(claims):
    """Return for each fact of the claims the digits that they name, in ascending order."""
    found = {name: [] for name in facts_of(claims)}
    for inner in inner_first(claims):
        if inner.label[0] == "fact":
            found[inner.label[1]].append(inner.label[2])
    return {name: sorted(set(found[name])) for name in found}


class Cases:
    """All cases that the claims can tell apart."""

    def __init__(self, claims):
        digits = named_digits(claims)
        self.names = tuple(digits)
        self.rows = [()]
        for name in digits:
            # All digits that no claim names are the same to the claims.
            other = [digit for digit in range(10) if digit not in digits[name]]
            choices = digits[name] + other[:1]
            self.rows = [(*row, digit) for row in self.rows for digit in choices]
        self.full = (1 << len(self.rows)) - 1
        self._named = {}
        for place, name in enumerate(self.names):
            for digit in digits[name]:
                self._named[(name, digit)] = self._with_digit(place, digit)

    def _with_digit(self, place, digit):
        """Return the set of cases with this digit at this place."""
        return sum([1 << index for index, row in enumerate(self.rows) if row[place] == digit])

    def _meaning(self, label, inner):
        """Return the cases that satisfy a claim with this label, from those of what stands in it."""
        if label[0] == "fact":
            return self._named[(label[1], label[2])]
        if label[0] == "not":
            return self.full ^ inner[0]
        if label[0] == "or":
            found = 0
            for cases in inner:
                found = found | cases
            return found
        found = self.full
        for cases in inner:
            found = found & cases
        return found

    def satisfying(self, node):
        """Return the set of cases that satisfy a fact claim."""
        found = {}
        for inner in inner_first((node,)):
            found[inner] = self._meaning(inner.label, [found[member] for member in inner.inner])
        return found[node]

    def satisfying_all(self, claims):
        """Return the set of cases that satisfy all these fact claims."""
        found = self.full
        for claim in claims:
            found = found & self.satisfying(claim)
        return found

    def first_of(self, cases):
        """Return the first case of a set that is not empty."""
        return [row for index, row in enumerate(self.rows) if cases >> index & 1][0]
