"""Rules of a team: what each party does in each cell of its sight."""


def has_acts(sight, acts):
    """Tell whether there is one act, 0 or 1, for each cell of the sight."""
    return len(acts) == len(sight.cells) and all([act == 0 or act == 1 for act in acts])


def acts_at(standing, rule):
    """Return for each party what it does at the open deal with each position, or None if this is no rule."""
    if len(rule) != len(standing.parties) or not all([len(pair) == 2 for pair in rule]):
        return None
    found = {}
    for name, (party, acts) in zip(standing.parties, rule):
        sight = standing.sight(name)
        if party != name or not has_acts(sight, acts):
            return None
        found[name] = [acts[mark] for mark in sight.marks]
    return found


def rule_of(standing, acts):
    """Return the rule with these acts for the cells of all parties, one after the other."""
    rule = []
    place = 0
    for name in standing.parties:
        end = place + len(standing.sight(name).cells)
        rule.append((name, tuple(acts[place:end])))
        place = end
    return tuple(rule)


class Cells:
    """The cells of all parties under numbers, in the order of the parties."""

    def __init__(self, standing):
        self.pairs = []
        self._starts = {}
        self._sights = {}
        for name in standing.parties:
            sight = standing.sight(name)
            self._starts[name] = len(self.pairs)
            self._sights[name] = sight
            self.pairs.extend([(name, mark) for mark in range(len(sight.cells))])

    def numbers(self, name):
        """Return the number of the cell of a party at the open deal with each position."""
        start = self._starts[name]
        return [start + mark for mark in self._sights[name].marks]

    def number_of(self, name, mark):
        """Return the number of a cell, or None if there is no such cell."""
        if name not in self._starts or not 0 <= mark < len(self._sights[name].cells):
            return None
        return self._starts[name] + mark
