"""What views mean and where claims hold in a standing.

The functions that begin with `part` take the parts of views and claims, whose
names the standing has.
"""

from math import gcd

from manysights.naming import check_names
from manysights.plains import combined
from manysights.sights import Sight


def part_sight(standing, parts):
    """Return the sight that the view means."""
    word = parts[0]
    if word == "eyes":
        return standing.sight(parts[1])
    if word == "value":
        return Sight(standing.digits(parts[1]))
    if word == "whether":
        return Sight([int(holding) for holding in part_truths(standing, parts[1])])
    if word == "when":
        return when_sight(standing, parts[1], parts[2])
    if word == "worth":
        return worth_sight(standing, parts[1], parts[2], parts[3])
    return combined(word, [part_sight(standing, member) for member in parts[1]])


def when_sight(standing, claim, view):
    """Return the sight of a view that is given where the claim holds."""
    truths = part_truths(standing, claim)
    marks = part_sight(standing, view).marks
    return Sight([mark if holding else -1 for mark, holding in zip(marks, truths)])


def worth_sight(standing, party, seen, terms):
    """Return the sight of what the terms are worth to the party in a cell of `seen`."""
    sight = part_sight(standing, seen)
    tops = weighed_cells(standing, party, sight, terms)
    bottoms = cell_sums(sight, standing.weights(party))
    worths = []
    for top, bottom in zip(tops, bottoms):
        shared = gcd(top, bottom)
        worths.append((top // shared, bottom // shared))
    return Sight([worths[mark] for mark in sight.marks])


def cell_sums(sight, weights):
    """Return for each cell the sum of the weights of its deals."""
    sums = [0] * len(sight.cells)
    for mark, weight in zip(sight.marks, weights):
        sums[mark] += weight
    return sums


def weighed_cells(standing, party, sight, terms):
    """Return for each cell the sum of the numbers, times the weights where the claims hold."""
    weights = standing.weights(party)
    sums = [0] * len(sight.cells)
    for number, claim in terms:
        truths = part_truths(standing, claim)
        for mark, weight, holding in zip(sight.marks, weights, truths):
            if holding:
                sums[mark] += number * weight
    return sums


def part_truths(standing, parts):
    """Return for each position whether the claim holds at the open deal."""
    word = parts[0]
    if word == "always":
        return [True] * len(standing.deals)
    if word == "fact":
        return [digit == parts[2] for digit in standing.digits(parts[1])]
    if word == "known":
        return known_truths(part_sight(standing, parts[1]), part_truths(standing, parts[2]))
    if word == "weighs":
        sight = part_sight(standing, parts[2])
        sums = weighed_cells(standing, parts[1], sight, parts[3])
        return [sums[mark] >= 0 for mark in sight.marks]
    if word == "not":
        return [not holding for holding in part_truths(standing, parts[1])]
    rows = [part_truths(standing, member) for member in parts[1]]
    if word == "and":
        return [all(column) for column in zip(*rows)]
    return [any(column) for column in zip(*rows)]


def known_truths(sight, truths):
    """Return for each position whether all positions of its cell are true."""
    missed = {mark: True for mark, holding in zip(sight.marks, truths) if not holding}
    return [mark not in missed for mark in sight.marks]


def sight_of(standing, view):
    """Return the sight that the view means in the standing."""
    check_names(standing, view.parts)
    return part_sight(standing, view.parts)


def where(standing, claim):
    """Return the open deals at which the claim holds."""
    check_names(standing, claim.parts)
    truths = part_truths(standing, claim.parts)
    return tuple([deal for deal, holding in zip(standing.deals, truths) if holding])


def holds(standing, claim, deal):
    """Tell whether the claim holds at an open deal."""
    check_names(standing, claim.parts)
    place = standing.position(deal)
    return part_truths(standing, claim.parts)[place]
