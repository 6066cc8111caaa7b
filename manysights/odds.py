"""Odds told by bounds: weights that keep them all, and the greatest odds that these leave."""

from manysights.errors import NoWeights
from manysights.ratios import compared, divided, multiplied
from manysights.spreading import made_whole


def lowered(worths, before, bounds):
    """Lower the worths to what each bound allows; return the last deal that was lowered, or None.

    None stands for a worth that nothing bounds yet. `before` gets the index of
    the bound that lowered the worth of a deal last.
    """
    last = None
    for index, (deal, other, top, bottom) in enumerate(bounds):
        if worths[other] is not None:
            most = multiplied(worths[other], (top, bottom))
            if worths[deal] is None or compared(most, worths[deal]) < 0:
                worths[deal] = most
                before[deal] = index
                last = deal
    return last


def settled(worths, before, bounds):
    """Lower the worths until all bounds hold; return None, or a deal whose worth falls for ever."""
    last = None
    count = len(worths)
    # If there are weights, nothing falls any more in the last of as many rounds as there are deals.
    for _ in range(count):
        last = lowered(worths, before, bounds)
        if last is None:
            return None
    return last


def chain_between(before, bounds, start, goal):
    """Return the indexes of the bounds that lowered the worths from `start` to `goal`, at least one."""
    found = [before[goal]]
    while bounds[found[-1]][1] != start:
        found.append(before[bounds[found[-1]][1]])
    return tuple(found[::-1])


def within_bounds(size, bounds):
    """Return weights that keep all bounds, or a chain of bounds that shows that there are none."""
    worths = [(1, 1)] * size
    before = [None] * size
    deal = settled(worths, before, bounds)
    if deal is None:
        return (tuple(made_whole(worths)), None)
    # So many steps back lead to a deal that the chain comes back to.
    for _ in range(size):
        deal = bounds[before[deal]][1]
    return (None, chain_between(before, bounds, deal, deal))


def weights_at(reached, worths):
    """Return weights in which the deals that are reached have the worths they were reached with.

    The others get the worths that keep all bounds, all multiplied by a number
    so great that no bound to a deal that is reached is broken.
    """
    pairs = list(zip(reached, worths))
    factor = (0, 1)
    for one, two in pairs:
        if one is not None and compared(divided(one, two), factor) > 0:
            factor = divided(one, two)
    found = [multiplied(factor, two) if one is None else one for one, two in pairs]
    return tuple(made_whole(found))


def greatest_odds(size, bounds, deal, other):
    """Return the greatest ratio of the weights of two deals, with a chain and weights that show it."""
    worths, _ = within_bounds(size, bounds)
    if worths is None:
        raise NoWeights()
    reached = [None] * size
    before = [None] * size
    reached[other] = (1, 1)
    settled(reached, before, bounds)
    if reached[deal] is None:
        return (None, None, None)
    chain = () if deal == other else chain_between(before, bounds, other, deal)
    return (reached[deal], chain, weights_at(reached, [(number, 1) for number in worths]))
