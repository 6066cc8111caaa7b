"""Numbers in the proportions of weights, spread over all deals that chains join.

Deals are here the positions of open deals.
"""

from math import gcd, lcm


def scaled(value, top, bottom):
    """Return the ratio that is top divided by bottom times a ratio in lowest terms."""
    shared = gcd(top, bottom)
    top, bottom = top // shared, bottom // shared
    # All other common divisors are those across; numbers that stay small keep this quick.
    above, below = gcd(value[0], bottom), gcd(value[1], top)
    return (value[0] // above * (top // below), value[1] // below * (bottom // above))


def made_whole(values):
    """Return whole numbers in the proportions of these ratios.

    They have no common divisor if all ratios are in lowest terms and one of them is 1.
    """
    shared = 1
    for _, bottom in values:
        if shared % bottom != 0:
            shared = lcm(shared, bottom)
    return [top * (shared // bottom) for top, bottom in values]


class Spread:
    """Ratios for the deals, in the proportions of the weights of some parties as far as this can be.

    `shares` has the ratio for each deal, and `sets` the deals of each set that
    chains join; the ratio of the first deal of each set is 1. `came` has for
    each other deal the party and the deal from which its ratio comes.
    `clash` is None, or a triple (party, deal, other) of two deals that are
    alike for the party but not in the proportion of its weights.
    """

    def __init__(self, standing, names):
        self._rows = [(name, standing.sight(name), standing.weights(name)) for name in names]
        self._done = [[False] * len(sight.cells) for _, sight, _ in self._rows]
        self.shares = [None] * len(standing.deals)
        self.came = [None] * len(standing.deals)
        self.sets = []
        self.clash = None

    def work_out(self):
        """Spread the ratios until all deals have one, or two deals clash."""
        count = len(self.shares)
        for start in range(count):
            if self.shares[start] is None and self.clash is None:
                self.shares[start] = (1, 1)
                self.sets.append(self._joined_to(start))

    def _joined_to(self, start):
        """Return all deals that chains join to this one, after they got their ratios."""
        found = [start]
        place = 0
        while place < len(found) and self.clash is None:
            for index in range(len(self._rows)):
                found.extend(self._fresh_from(found[place], index))
            place += 1
        return found

    def _fresh_from(self, deal, index):
        """Return the deals that get their ratios from this one, being alike to it for a party."""
        name, sight, weights = self._rows[index]
        mark = sight.marks[deal]
        fresh = []
        if self._done[index][mark]:
            return fresh
        self._done[index][mark] = True
        for other in sight.cells[mark]:
            value = scaled(self.shares[deal], weights[other], weights[deal])
            if self.shares[other] is None:
                self.shares[other] = value
                self.came[other] = (name, deal)
                fresh.append(other)
            elif self.shares[other] != value:
                self.clash = (name, deal, other)
        return fresh


def spread_over(standing, names):
    """Return the ratios that the weights of these parties give to the deals."""
    spread = Spread(standing, names)
    spread.work_out()
    return spread


def way_up(came, deal):
    """Return the deals from this one back to the first deal of its set."""
    found = [deal]
    while came[found[-1]] is not None:
        found.append(came[found[-1]][1])
    return found


def way_back(came, deal, other):
    """Return the steps (party, deal) that lead from `other` back to `deal` the way the ratios came."""
    goal = way_up(came, deal)
    places = {step: place for place, step in enumerate(goal)}
    steps = []
    while other not in places:
        steps.append(came[other])
        other = came[other][1]
    for step in goal[:places[other]][::-1]:
        steps.append((came[step][0], step))
    return steps
