"""What holds at every moment of every play, and the first plays after which a claim holds."""

from manysights.meanings import meaning_of, open_where
from manysights.naming import check_names, has_names
from manysights.pieces import is_one_piece, pieces
from manysights.states import explored, first_rows, menu_of, nodes_of, states_after


class Always:
    """Whether a claim holds at every moment, with a table or with a play that shows it."""

    def __init__(self, table, deal, steps):
        self.sure = steps is None
        self.table = table
        self.deal = deal
        self.steps = steps


def failing_deals(state, node):
    """Return the open deals at which the claim does not hold."""
    return open_where(state, [not holding for holding in meaning_of(state, node)])


def always(standing, menu, claim, *, limit=500):
    """Return whether the claim holds at every moment of every play."""
    check_names(standing, nodes_of(menu) + [claim.node])
    states, moves, starts = explored(standing, menu_of(menu), limit)
    failing = [failing_deals(state, claim.node) for state in states]
    for row, members in first_rows(starts, moves, len(menu)):
        deals = [deal for member in members for deal in failing[member]]
        if deals:
            return Always((), min(deals), row)
    return Always(tuple(states), None, None)


def is_fine_state(state, menu, node, listed):
    """Tell whether the claim holds throughout a state, and whether all moves lead to listed states."""
    if not is_one_piece(state) or failing_deals(state, node):
        return False
    for singles in menu:
        for other in states_after(state, singles):
            if other.key not in listed:
                return False
    return True


def is_always_table(standing, menu, claim, table):
    """Tell whether the table shows that the claim holds at every moment of every play."""
    nodes = nodes_of(menu) + [claim.node]
    check_names(standing, nodes)
    listed = {state.key: True for state in table}
    if not all([piece.key in listed for piece in pieces(standing)]):
        return False
    if not all([has_names(state, nodes) for state in table]):
        return False
    choices = menu_of(menu)
    return all([is_fine_state(state, choices, claim.node, listed) for state in table])


def first_play(standing, menu, claim, deal, *, limit=500):
    """Return the first row of a play of the deal after which the claim holds at it, or None."""
    check_names(standing, nodes_of(menu) + [claim.node])
    standing.position(deal)
    states, moves, starts = explored(standing, menu_of(menu), limit)
    own = [[(index, number) for index, number in row if deal in states[number]] for row in moves]
    first = [number for number in starts if deal in states[number]]
    for row, members in first_rows(first, own, len(menu)):
        state = states[members[0]]
        if meaning_of(state, claim.node)[state.position(deal)]:
            return row
    return None
