"""What views mean and where claims hold in a standing.

The meaning of a node is the sight of a view, and a list of True and False for
a claim: whether it holds at the open deal with each position. All names in
nodes that are passed are in the standing.
"""

from manysights.forms import inner_first
from manysights.naming import check_names
from manysights.plains import combined
from manysights.ratios import ratio
from manysights.sights import Sight

VIEWS = ("eyes", "value", "whether", "when", "worth", "pooled", "common")


def meanings_of(standing, nodes):
    """Return what the nodes mean; what stands in several places is worked out once."""
    found = {}
    for node in inner_first(nodes):
        inner = [found[member] for member in node.inner]
        if node.label[0] in VIEWS:
            found[node] = view_meaning(standing, node.label, inner)
        else:
            found[node] = claim_meaning(standing, node.label, inner)
    return [found[node] for node in nodes]


def view_meaning(standing, label, inner):
    """Return the sight of a view with this label, from the meanings of what stands in it."""
    word = label[0]
    if word == "eyes":
        return standing.sight(label[1])
    if word == "value":
        return Sight(standing.digits(label[1]))
    if word == "whether":
        return Sight([int(holding) for holding in inner[0]])
    if word == "when":
        return Sight([mark if holding else -1 for mark, holding in zip(inner[1].marks, inner[0])])
    if word == "worth":
        return Sight(worths_in(standing.weights(label[1]), inner[0], label[2], inner[1:]))
    return combined(word, inner)


def worths_in(weights, sight, numbers, rows):
    """Return what terms are worth in the cell of each position; the rows are the truths of their claims."""
    tops = weighed_cells(weights, sight, numbers, rows)
    bottoms = weighed_cells(weights, sight, (1,), ([True] * sight.size,))
    worths = [ratio(top, bottom) for top, bottom in zip(tops, bottoms)]
    return [worths[mark] for mark in sight.marks]


def weighed_cells(weights, sight, numbers, rows):
    """Return for each cell the sum of the numbers, times the weights where the rows are true."""
    sums = [0] * len(sight.cells)
    for number, truths in zip(numbers, rows):
        for mark, weight, holding in zip(sight.marks, weights, truths):
            if holding:
                sums[mark] += number * weight
    return sums


def claim_meaning(standing, label, inner):
    """Return the truths of a claim with this label, from the meanings of what stands in it."""
    word = label[0]
    if word == "always":
        return [True] * len(standing.deals)
    if word == "fact":
        return [digit == label[2] for digit in standing.digits(label[1])]
    if word == "known":
        return known_truths(inner[0], inner[1])
    if word == "weighs":
        sums = weighed_cells(standing.weights(label[1]), inner[0], label[2], inner[1:])
        return [sums[mark] >= 0 for mark in inner[0].marks]
    if word == "not":
        return [not holding for holding in inner[0]]
    if word == "and":
        return [all(column) for column in zip(*inner)]
    return [any(column) for column in zip(*inner)]


def known_truths(sight, truths):
    """Return for each position whether all positions of its cell are true."""
    missed = {mark: True for mark, holding in zip(sight.marks, truths) if not holding}
    return [mark not in missed for mark in sight.marks]


def meaning_of(standing, node):
    """Return what the node means."""
    return meanings_of(standing, (node,))[0]


def open_where(standing, truths):
    """Return the open deals at whose positions the truths are True."""
    return tuple([deal for deal, holding in zip(standing.deals, truths) if holding])


def sight_of(standing, view):
    """Return the sight that the view means in the standing."""
    check_names(standing, (view.node,))
    return meaning_of(standing, view.node)


def where(standing, claim):
    """Return the open deals at which the claim holds."""
    check_names(standing, (claim.node,))
    return open_where(standing, meaning_of(standing, claim.node))


def holds(standing, claim, deal):
    """Tell whether the claim holds at an open deal."""
    check_names(standing, (claim.node,))
    place = standing.position(deal)
    return meaning_of(standing, claim.node)[place]
