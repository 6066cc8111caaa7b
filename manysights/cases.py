"""Which digits of the facts satisfy fact claims.

A case gives a digit to each fact. Sets of cases are whole numbers: the bit k
stands for the case with the index k.
"""

from manysights.naming import facts_of


def is_fact_claim(parts):
    """Tell whether the claim is made of always, fact, not, and and or alone."""
    waiting = [parts]
    while waiting:
        inner = waiting.pop()
        if inner[0] == "not":
            waiting.append(inner[1])
        elif inner[0] in ("and", "or"):
            waiting.extend(inner[1])
        elif inner[0] not in ("always", "fact"):
            return False
    return True


def named_digits(parts):
    """Return for each fact of the claim the digits that it names, in ascending order."""
    found = {name: [] for name in facts_of(parts)}
    waiting = [parts]
    while waiting:
        inner = waiting.pop()
        if inner[0] == "fact":
            found[inner[1]].append(inner[2])
        elif inner[0] == "not":
            waiting.append(inner[1])
        elif inner[0] != "always":
            waiting.extend(inner[1])
    return {name: sorted(set(found[name])) for name in found}


class Cases:
    """All cases that the claims can tell apart."""

    def __init__(self, claims):
        digits = named_digits(("and", tuple(claims)))
        self.names = tuple(digits)
        self.rows = [()]
        for name in digits:
            # All digits that no claim names are the same to the claims.
            other = [digit for digit in range(10) if digit not in digits[name]]
            choices = digits[name] + other[:1]
            self.rows = [(*row, digit) for row in self.rows for digit in choices]
        self.full = (1 << len(self.rows)) - 1
        self._named = {}
        for place, name in enumerate(self.names):
            for digit in digits[name]:
                self._named[(name, digit)] = self._with_digit(place, digit)

    def _with_digit(self, place, digit):
        """Return the set of cases with this digit at this place."""
        return sum([1 << index for index, row in enumerate(self.rows) if row[place] == digit])

    def satisfying(self, parts):
        """Return the set of cases that satisfy a fact claim."""
        if parts[0] == "always":
            return self.full
        if parts[0] == "fact":
            return self._named[(parts[1], parts[2])]
        if parts[0] == "not":
            return self.full ^ self.satisfying(parts[1])
        if parts[0] == "and":
            return self.satisfying_all(parts[1])
        found = 0
        for member in parts[1]:
            found = found | self.satisfying(member)
        return found

    def satisfying_all(self, claims):
        """Return the set of cases that satisfy all these fact claims."""
        found = self.full
        for claim in claims:
            found = found & self.satisfying(claim)
        return found

    def first_of(self, cases):
        """Return the first case of a set that is not empty."""
        return [row for index, row in enumerate(self.rows) if cases >> index & 1][0]
