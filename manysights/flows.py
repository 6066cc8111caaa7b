"""The best that a team can do, and flows that show that no rule does better."""

from manysights.cutting import Pipes
from manysights.meanings import meanings_of
from manysights.naming import PARTY, check_names
from manysights.rules import Cells, acts_at, rule_of

ONE = "one"
ZERO = "zero"
# Stands for both of them where cells have numbers.
OUTSIDE = -1


def check_hopes(standing, judge, hopes, ties):
    """Raise an error for a name that the standing lacks."""
    entries = [(PARTY, judge)]
    for claim, side, _ in hopes:
        entries.extend([claim.node, (PARTY, side[0])])
    for claim, one, two, _ in ties:
        entries.extend([claim.node, (PARTY, one), (PARTY, two)])
    check_names(standing, entries)


def worth_rows(standing, judge, wanted):
    """Return what hopes or ties bring at the open deal with each position, times the weights of the judge."""
    rows = meanings_of(standing, [want[0].node for want in wanted])
    weights = standing.weights(judge)
    found = []
    for want, truths in zip(wanted, rows):
        found.append([want[-1] * weight if holding else 0 for weight, holding in zip(weights, truths)])
    return found


def team_total(standing, judge, hopes, ties, rule):
    """Return the total of a rule, or None if it is no rule."""
    check_hopes(standing, judge, hopes, ties)
    acts = acts_at(standing, rule)
    if acts is None:
        return None
    total = 0
    for hope, row in zip(hopes, worth_rows(standing, judge, hopes)):
        name, act = hope[1]
        total += sum([number for number, done in zip(row, acts[name]) if done == act])
    for tie, row in zip(ties, worth_rows(standing, judge, ties)):
        pairs = list(zip(acts[tie[1]], acts[tie[2]]))
        total += sum([number for number, (one, two) in zip(row, pairs) if one == two])
    return total


class Wants:
    """The pulls of the cells, and the bonds between them; cells have numbers.

    `pulls` has for each cell its pulls to act 0 and to act 1, `bonds` the bond
    for each pair of cells, the lesser number first.
    """

    def __init__(self, standing, judge, hopes, ties):
        self.board = Cells(standing)
        self.pulls = [[0, 0] for _ in self.board.pairs]
        self.bonds = {}
        for hope, row in zip(hopes, worth_rows(standing, judge, hopes)):
            name, act = hope[1]
            for number, cell in zip(row, self.board.numbers(name)):
                self.pulls[cell][act] += number
        for tie, row in zip(ties, worth_rows(standing, judge, ties)):
            self._bind(row, self.board.numbers(tie[1]), self.board.numbers(tie[2]))

    def _bind(self, row, cells, others):
        """Add what a tie brings at each position to the bond of the two cells there."""
        for number, cell, other in zip(row, cells, others):
            if number > 0:
                pair = (min(cell, other), max(cell, other))
                self.bonds[pair] = self.bonds.get(pair, 0) + number

    def whole(self):
        """Return the sum of all pulls and bonds."""
        return sum([sum(pair) for pair in self.pulls]) + sum([self.bonds[pair] for pair in self.bonds])


class Best:
    """The greatest total of a rule, the rule with the fewest cells of act 1, and a flow that shows it."""

    def __init__(self, total, rule, flow):
        self.total = total
        self.rule = rule
        self.flow = flow


def pipes_of(wants):
    """Return pipes between the cells, from the place after all cells and to the one after that."""
    count = len(wants.pulls)
    pipes = Pipes(count + 2)
    for cell, (zero, one) in enumerate(wants.pulls):
        pipes.connect(count, cell, one, 0)
        pipes.connect(cell, count + 1, zero, 0)
    for cell, other in wants.bonds:
        bond = wants.bonds[(cell, other)]
        pipes.connect(cell, other, bond, bond)
    return pipes


def flow_in(pipes, full, names):
    """Return what flows through the pipes; they had room for `full` when nothing did."""
    flow = []
    for start, row in enumerate(pipes.rows):
        for pipe in row:
            amount = full[pipe] - pipes.room[pipe]
            if amount > 0:
                flow.append((names[start], names[pipes.heads[pipe]], amount))
    return tuple(flow)


def best_team(standing, judge, hopes, ties):
    """Return the best that the team can do, with a flow that shows it."""
    check_hopes(standing, judge, hopes, ties)
    wants = Wants(standing, judge, hopes, ties)
    pipes = pipes_of(wants)
    full = list(pipes.room)
    count = len(wants.pulls)
    pipes.fill(count, count + 1)
    flow = flow_in(pipes, full, wants.board.pairs + [ONE, ZERO])
    # Act 1 is best in each cell to which something more could flow.
    reached = pipes.reached_from(count)
    acts = [int(cell in reached) for cell in range(count)]
    total = wants.whole() - sum([amount for first, _, amount in flow if first == ONE])
    return Best(total, rule_of(standing, acts), flow)


def end_of(cells, end, word):
    """Return the number of a cell, OUTSIDE for the word, or None if it is neither."""
    if isinstance(end, str):
        return OUTSIDE if end == word else None
    return cells.number_of(end[0], end[1])


def most_between(wants, start, goal):
    """Return the most that can flow from a cell or `one` to a cell or `zero`."""
    if start == OUTSIDE:
        return 0 if goal == OUTSIDE else wants.pulls[goal][1]
    if goal == OUTSIDE:
        return wants.pulls[start][0]
    return wants.bonds.get((min(start, goal), max(start, goal)), 0)


def fits(wants, amounts):
    """Tell whether amounts under pairs of ends meet the conditions of a flow."""
    kept = [0] * len(wants.pulls)
    for start, goal in amounts:
        amount = amounts[(start, goal)]
        if not 1 <= amount <= most_between(wants, start, goal):
            return False
        if start != OUTSIDE:
            kept[start] -= amount
            if goal != OUTSIDE and (goal, start) in amounts:
                return False
        if goal != OUTSIDE:
            kept[goal] += amount
    return not any(kept)


def flow_bound(standing, judge, hopes, ties, flow):
    """Return the number that no total exceeds by this flow, or None if it is no flow."""
    check_hopes(standing, judge, hopes, ties)
    wants = Wants(standing, judge, hopes, ties)
    amounts = {}
    for first, second, amount in flow:
        pair = (end_of(wants.board, first, ONE), end_of(wants.board, second, ZERO))
        if None in pair or pair in amounts:
            return None
        amounts[pair] = amount
    if not fits(wants, amounts):
        return None
    return wants.whole() - sum([amounts[pair] for pair in amounts if pair[0] == OUTSIDE])
