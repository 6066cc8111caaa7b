"""Whether the chances of parties come from one prior, and bets that all would take if they do not."""

from manysights.choosing import index_sets
from manysights.naming import PARTY, check_names
from manysights.pools import named
from manysights.spreading import made_whole, scaled, spread_over, way_back


class Prior:
    """One prior of some parties, or a ring and a bet that show that there is none."""

    def __init__(self, prior, ring, bet):
        self.prior = prior
        self.ring = ring
        self.bet = bet


def whole_prior(spread):
    """Return the prior in which the numbers of each set have no common divisor."""
    prior = [1] * len(spread.shares)
    for joined in spread.sets:
        for deal, number in zip(joined, made_whole([spread.shares[deal] for deal in joined])):
            prior[deal] = number
    return tuple(prior)


def amounts_of(standing, start, steps):
    """Return what the parties of the steps that meet exchange before each step, and after the last one.

    The amounts are ratios, in such proportions that no step gains or loses.
    """
    amounts = [(1, 1)]
    here = start
    for name, deal in steps:
        weights = standing.weights(name)
        amounts.append(scaled(amounts[-1], weights[here], weights[deal]))
        here = deal
    return amounts


def bet_of(standing, start, steps):
    """Return a bet that tempts, made from a ring; deals are positions here.

    The last step leads to the first deal, where 1 is exchanged: if the amount
    after it would be less than 1, the party of the last step gains by this,
    otherwise it gains in the other direction.
    """
    amounts = amounts_of(standing, start, steps)
    top, bottom = amounts[-1]
    sign = 1 if top < bottom else -1
    gains = {name: [0] * len(standing.deals) for name in standing.parties}
    here, last = start, steps[-1][0]
    for (name, deal), amount in zip(steps, made_whole(amounts[:-1])):
        gains[last][here] += sign * amount
        gains[name][here] -= sign * amount
        here, last = deal, name
    return tuple([(name, tuple(gains[name])) for name in standing.parties])


def one_prior(standing, *, parties=None):
    """Return the prior of the listed parties, or a ring and a bet that show that there is none."""
    names = standing.parties if parties is None else parties
    check_names(standing, [(PARTY, name) for name in names])
    spread = spread_over(standing, names)
    if spread.clash is None:
        return Prior(whole_prior(spread), None, None)
    name, deal, other = spread.clash
    steps = [(name, other)] + way_back(spread.came, deal, other)
    ring = (standing.deals[deal], tuple([(party, standing.deals[step]) for party, step in steps]))
    return Prior(None, ring, bet_of(standing, deal, steps))


def agreeing_groups(standing):
    """Return the greatest groups of parties for which there is one prior."""
    found = []
    for row in index_sets(len(standing.parties))[::-1]:
        # What is part of a group with one prior has that prior, too.
        if not any([all([place in other for place in row]) for other in found]):
            if spread_over(standing, [standing.parties[index] for index in row]).clash is None:
                found.append(row)
    return named(standing, sorted(found, key=lambda row: (len(row), row)))
