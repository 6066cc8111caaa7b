"""Judges of priors, of rings that show that there is none, and of bets that tempt."""


def is_prior(standing, prior):
    """Tell whether these numbers are a prior for the standing."""
    if len(prior) != len(standing.deals) or min(prior) < 1:
        return False
    for name in standing.parties:
        weights = standing.weights(name)
        for cell in standing.sight(name).cells:
            first = cell[0]
            if not all([prior[deal] * weights[first] == prior[first] * weights[deal] for deal in cell]):
                return False
    return True


def is_step(standing, here, step):
    """Tell whether the step leads from an open deal to a different deal that is alike to it for a party."""
    if len(step) != 2 or step[0] not in standing.parties:
        return False
    if step[1] not in standing or step[1] == here:
        return False
    return standing.sight(step[0]).alike(standing.position(here), standing.position(step[1]))


def is_twisted_ring(standing, start, steps):
    """Tell whether this is a ring with a twist other than 1."""
    if start not in standing:
        return False
    here, top, bottom = start, 1, 1
    for step in steps:
        if not is_step(standing, here, step):
            return False
        weights = standing.weights(step[0])
        top = top * weights[standing.position(step[1])]
        bottom = bottom * weights[standing.position(here)]
        here = step[1]
    return here == start and top != bottom


def has_form(standing, bet):
    """Tell whether the bet has gains for each open deal for each party, in order."""
    if len(bet) != len(standing.parties) or not all([len(pair) == 2 for pair in bet]):
        return False
    if [pair[0] for pair in bet] != list(standing.parties):
        return False
    return all([len(gains) == len(standing.deals) for _, gains in bet])


def expected_gains(standing, name, gains):
    """Return for each cell of a party the sum of its gains multiplied by its weights."""
    sight = standing.sight(name)
    sums = [0] * len(sight.cells)
    for mark, weight, gain in zip(sight.marks, standing.weights(name), gains):
        sums[mark] += weight * gain
    return sums


def is_tempting(standing, bet):
    """Tell whether the bet tempts the parties."""
    if not has_form(standing, bet):
        return False
    rows = [gains for _, gains in bet]
    if not all([sum(column) == 0 for column in zip(*rows)]):
        return False
    sums = []
    for name, gains in bet:
        sums.extend(expected_gains(standing, name, gains))
    return len(sums) > 0 and min(sums) >= 0 and max(sums) > 0
