"""Plans: goals that we can reach whatever others do, and what they cost."""

from manysights.pricing import first_choice, greatest, priced
from manysights.turns import Positions, Turns, check_turns, has_pieces, has_start, holds_in, is_within, least_under


class Plan:
    """Whether we can reach a goal, with what we do, or with the positions that show that we cannot."""

    def __init__(self, cost, steps, bad):
        self.sure = cost is not None
        self.cost = cost
        self.steps = steps
        self.bad = bad


def costs_of(ours, costs):
    """Return the cost of each deed of ours."""
    return [1] * len(ours) if costs is None else list(costs)


def cheapest(row, worths, price, paid):
    """Return the least index of a deed with which the price can be kept, or None if there is nothing to pay."""
    if price == 0:
        return None
    bounds = [None if cost is None else price - cost for cost in paid]
    return first_choice(row, worths, bounds) - 1


def plan(standing, ours, theirs, goal, *, keep=None, costs=None, limit=500):
    """Return whether we can reach the goal and keep what is to be kept, whatever others do."""
    check_turns(standing, ours, theirs, (goal, keep))
    # The first choice is to wait, which we do not do in a plan.
    paid = [None] + costs_of(ours, costs)
    board = Positions(standing, ours, theirs, limit)
    fine = board.truths(keep)
    goals = [number for number, holding in enumerate(board.truths(goal)) if holding and fine[number]]
    prices, worths = priced(board, fine, paid, goals)
    steps, bad = [], []
    for number, state in enumerate(board.states):
        if prices[number] is None:
            bad.append((state, 0))
        else:
            steps.append((state, cheapest(board.choices[number], worths, prices[number], paid), prices[number]))
        if worths[number] is None:
            bad.append((state, 1))
    cost = greatest([prices[number] for number in board.starts])
    return Plan(cost, tuple(steps), () if cost is not None else tuple(bad))


def fits(turns, step, goal, keep, costs, least):
    """Tell whether a triple meets the conditions of a plan; `least` has the least price for each key."""
    state, choice, price = step
    if price < 0 or not turns.is_choice(choice) or not holds_in(state, keep):
        return False
    if choice is None:
        return holds_in(state, goal)
    rest = price - costs[choice]
    for other in turns.after_choice(state, choice):
        if not holds_in(other, keep):
            return False
        for key in turns.reply_keys(other):
            if not is_within(key, rest, least):
                return False
    return True


def is_plan(standing, ours, theirs, goal, steps, *, keep=None, costs=None):
    """Tell whether the table of triples shows a plan."""
    check_turns(standing, ours, theirs, (goal, keep))
    paid = costs_of(ours, costs)
    least = least_under([(state.key, price) for state, _, price in steps])
    if not has_pieces(standing, least):
        return False
    turns = Turns(ours, theirs)
    return all([fits(turns, step, goal, keep, paid, least) for step in steps])


def is_lost(turns, state, turn, goal, keep, listed):
    """Tell whether a position meets the conditions; `listed` has pairs of a key and a turn."""
    if not holds_in(state, keep):
        return True
    if turn == 1:
        return any([(key, 0) in listed for key in turns.reply_keys(state)])
    if holds_in(state, goal):
        return False
    for choice in turns.all_choices()[1:]:
        if not any([(other.key, 1) in listed for other in turns.after_choice(state, choice)]):
            return False
    return True


def is_no_plan(standing, ours, theirs, goal, bad, *, keep=None):
    """Tell whether the table of positions shows that there is no plan."""
    check_turns(standing, ours, theirs, (goal, keep))
    listed = {(state.key, turn): True for state, turn in bad}
    if not has_start(standing, listed):
        return False
    turns = Turns(ours, theirs)
    return all([is_lost(turns, state, turn, goal, keep, listed) for state, turn in bad])
