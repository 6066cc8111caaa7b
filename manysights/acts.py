"""Acts that a party chooses among, and what it is worth to see more before."""

from manysights.chains import unlike_pair
from manysights.checks import is_whole
from manysights.errors import BadAct, BadLength, NoActs
from manysights.meanings import meaning_of
from manysights.naming import PARTY, check_names
from manysights.ratios import ratio


def check_acts(standing, acts):
    """Raise an error for an act of the wrong length or with a wrong item, or if there are no acts."""
    for act in acts:
        if len(act) != len(standing.deals):
            raise BadLength(len(act))
    for index, act in enumerate(acts):
        if not all([is_whole(item) for item in act]):
            raise BadAct(index)
    if len(acts) == 0:
        raise NoActs()


def parts_in(sight, places):
    """Return the parts of a set of positions that are alike in a sight, in order."""
    found = {}
    for place in places:
        found.setdefault(sight.marks[place], []).append(place)
    return [tuple(found[mark]) for mark in found]


def best_act(weights, acts, places):
    """Return what the best act brings at these positions, times the weights, and its least index."""
    sums = [sum([weights[place] * act[place] for place in places]) for act in acts]
    return (max(sums), sums.index(max(sums)))


def best_acts(standing, party, acts, view, deal):
    """Return how a party does best if it is shown the view before it chooses among acts."""
    check_names(standing, [(PARTY, party), view.node])
    cell = standing.sight(party).cell_of(standing.position(deal))
    check_acts(standing, acts)
    weights = standing.weights(party)
    total, choices = 0, []
    for places in parts_in(meaning_of(standing, view.node), cell):
        brought, index = best_act(weights, acts, places)
        total += brought
        choices.append((tuple([standing.deals[place] for place in places]), index))
    return (ratio(total, sum([weights[place] for place in cell])), tuple(choices))


def better_acts(standing, party, one, two):
    """Return acts and a deal at which they are worth more to a party that sees `two`, or None."""
    check_names(standing, [(PARTY, party), one.node, two.node])
    eyes = standing.sight(party)
    pair = unlike_pair(eyes & meaning_of(standing, one.node), eyes & meaning_of(standing, two.node))
    if pair is None:
        return None
    # Who tells the two deals apart wins at the first and does nothing at the second one.
    risky = [0] * len(standing.deals)
    risky[pair[0]] = 1
    risky[pair[1]] = -1
    return ((tuple(risky), (0,) * len(risky)), standing.deals[pair[0]])
