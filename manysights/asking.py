"""What it costs a party to learn by questions what a view tells."""

from manysights.acts import parts_in
from manysights.meanings import meanings_of
from manysights.naming import PARTY, check_names
from manysights.ratios import added, compared, divided, multiplied

NOTHING = (0, 1)


class Questions:
    """The questions of a party in a standing; sets of deals are tuples of positions here."""

    def __init__(self, standing, party, questions, target, worst):
        first, *sights = meanings_of(standing, [target.node] + [view.node for view, _ in questions])
        self._target = first
        self._sights = sights
        self._prices = [price for _, price in questions]
        self._weights = standing.weights(party)
        self._worst = worst

    def is_learnt(self, places):
        """Tell whether the party knows the target at this set."""
        return len(parts_in(self._target, places)) == 1

    def splittings(self, places):
        """Return pairs of the index of a question that splits the set, and the parts."""
        found = []
        for index, sight in enumerate(self._sights):
            parts = parts_in(sight, places)
            if len(parts) > 1:
                found.append((index, parts))
        return found

    def sets_from(self, places):
        """Return all sets that can arise from this one."""
        found = {places: True}
        waiting = [places]
        while waiting:
            last = waiting.pop()
            for _, parts in self.splittings(last):
                waiting.extend([part for part in parts if part not in found])
                found.update({part: True for part in parts})
        return list(found)

    def _weight(self, places):
        """Return the sum of the weights of a set, as a ratio."""
        return (sum([self._weights[place] for place in places]), 1)

    def price_with(self, index, parts, costs):
        """Return the price of a question and the cost to come, from the costs under the parts."""
        to_come = NOTHING
        for part in parts:
            if not self._worst:
                to_come = added(to_come, multiplied(costs[part], self._weight(part)))
            elif compared(costs[part], to_come) > 0:
                to_come = costs[part]
        if not self._worst:
            whole = [place for part in parts for place in part]
            to_come = divided(to_come, self._weight(whole))
        return added((self._prices[index], 1), to_come)

    def best_choice(self, places, costs):
        """Return the question to ask at a set and the cost of the set, from the costs under smaller sets."""
        if self.is_learnt(places):
            return (None, NOTHING)
        choice, cost = None, None
        for index, parts in self.splittings(places):
            if None not in [costs[part] for part in parts]:
                price = self.price_with(index, parts, costs)
                if cost is None or compared(price, cost) < 0:
                    choice, cost = index, price
        return (choice, cost)

    def stuck_pair(self, places):
        """Return the first two places that no question tells apart, but the target does."""
        for place in places:
            for other in places:
                unlike = not self._target.alike(place, other)
                if place < other and unlike and all([sight.alike(place, other) for sight in self._sights]):
                    return (place, other)
        return None


class Asking:
    """What it costs to learn a target, with what is to be asked at each set."""

    def __init__(self, cost, table, stuck):
        self.cost = cost
        self.table = table
        self.stuck = stuck


def check_asking(standing, party, questions, target):
    """Raise an error for a name that the standing lacks."""
    nodes = [view.node for view, _ in questions]
    check_names(standing, [(PARTY, party), *nodes, target.node])


def least_asking(standing, party, questions, target, deal, *, worst=False):
    """Return the least cost at which the party learns at a deal what the target tells."""
    check_asking(standing, party, questions, target)
    cell = standing.sight(party).cell_of(standing.position(deal))
    asked = Questions(standing, party, questions, target, worst)
    sets = sorted(asked.sets_from(cell), key=lambda places: (-len(places), places))
    costs, choices = {}, {}
    for places in sets[::-1]:
        choices[places], costs[places] = asked.best_choice(places, costs)
    deals = standing.deals
    table = [(tuple([deals[place] for place in places]), choices[places], costs[places]) for places in sets]
    stuck = None
    if costs[cell] is None:
        stuck = tuple([deals[place] for place in asked.stuck_pair(cell)])
    return Asking(costs[cell], tuple(table), stuck)


def is_bounded_below(asked, places, costs):
    """Tell whether the costs are right at this set for a table that bounds an asking from below."""
    cost = costs[places]
    if cost[0] < 0:
        return False
    if asked.is_learnt(places):
        return cost[0] == 0
    for index, parts in asked.splittings(places):
        if not all([part in costs for part in parts]):
            return False
        if compared(cost, asked.price_with(index, parts, costs)) > 0:
            return False
    return True


def is_floor(standing, party, questions, target, deal, table, *, worst=False):
    """Tell whether the table bounds the asking from below."""
    check_asking(standing, party, questions, target)
    cell = standing.sight(party).cell_of(standing.position(deal))
    asked = Questions(standing, party, questions, target, worst)
    costs = {}
    for deals, cost in table:
        places = tuple([standing.position(other) for other in deals])
        if places in costs:
            return False
        costs[places] = cost
    return cell in costs and all([is_bounded_below(asked, places, costs) for places in costs])
