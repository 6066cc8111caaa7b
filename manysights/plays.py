"""States of a standing, moves between them, and plays."""

from manysights.errors import BadMove, NotOnePiece, NotPossible
from manysights.naming import check_names
from manysights.pieces import is_one_piece, piece_of
from manysights.states import explored, menu_of, nodes_of, states_after


def moves(state, menu):
    """Return the moves of a state: pairs of an index of the menu and the state that comes."""
    check_names(state, nodes_of(menu))
    if not is_one_piece(state):
        raise NotOnePiece()
    found = []
    for index, singles in enumerate(menu_of(menu)):
        found.extend([(index, other) for other in states_after(state, singles)])
    return tuple(found)


def reachable(standing, menu, *, limit=500):
    """Return all states that can be reached by deeds of the menu."""
    check_names(standing, nodes_of(menu))
    states, _, _ = explored(standing, menu_of(menu), limit)
    return tuple(states)


def state_at(states, deal):
    """Return the state in which the deal is open, or None."""
    for state in states:
        if deal in state:
            return state
    return None


def play_states(standing, menu, deal, row):
    """Return the states in which the play of a deal and a row is."""
    check_names(standing, nodes_of(menu))
    found = [piece_of(standing, deal)]
    for place, index in enumerate(row):
        if not 0 <= index < len(menu):
            raise BadMove(place)
    choices = menu_of(menu)
    for place, index in enumerate(row):
        state = state_at(states_after(found[-1], choices[index]), deal)
        if state is None:
            raise NotPossible(place)
        found.append(state)
    return tuple(found)
