"""States that can be reached, under numbers, and the moves between them.

A menu is here a list of deeds, each as the list of its single deeds.
"""

from manysights.doing import after_singles, singles_of
from manysights.errors import HasCall, TooManyStates
from manysights.pieces import pieces

WHOLE = ("change", "forget")


def menu_of(deeds):
    """Return the single deeds of each deed."""
    return [singles_of((deed.node,)) for deed in deeds]


def nodes_of(deeds):
    """Return the nodes of the deeds, in order."""
    return [deed.node for deed in deeds]


def check_calls(deeds):
    """Raise HasCall for the first deed that is a call or has one in it."""
    for index, singles in enumerate(menu_of(deeds)):
        if any([node.label[0] == "call" for node in singles]):
            raise HasCall(index)


def states_after(state, singles):
    """Return the states that can come after a deed; none if it cannot be done."""
    end, _ = after_singles(state, singles)
    if end is None:
        return ()
    # Changes and forgettings take nothing apart.
    if all([node.label[0] in WHOLE for node in singles]):
        return (end,)
    return pieces(end)


class Found:
    """States under numbers, in the order in which they were found."""

    def __init__(self, limit):
        self.states = []
        self._limit = limit
        self._numbers = {}

    def number_of(self, state):
        """Return the number of a state, a new one if it is new."""
        key = state.key
        if key not in self._numbers:
            if len(self.states) == self._limit:
                raise TooManyStates(self._limit)
            self._numbers[key] = len(self.states)
            self.states.append(state)
        return self._numbers[key]


def moves_from(state, menu, found):
    """Return the moves of a state: pairs of an index of the menu and the number of a state."""
    moves = []
    for index, singles in enumerate(menu):
        moves.extend([(index, found.number_of(other)) for other in states_after(state, singles)])
    return moves


def explored(standing, menu, limit):
    """Return all states that can be reached, the moves of each, and the numbers of the pieces."""
    found = Found(limit)
    starts = [found.number_of(piece) for piece in pieces(standing)]
    moves = []
    while len(moves) < len(found.states):
        moves.append(moves_from(found.states[len(moves)], menu, found))
    return (found.states, moves, starts)


def moved_by(members, moves, index):
    """Return the numbers of the states to which moves of this index lead from the members."""
    found = []
    for member in members:
        found.extend([number for place, number in moves[member] if place == index])
    return found


def first_rows(starts, moves, count):
    """Return pairs of a row and the numbers of all states to which it is the first row that leads.

    The pairs are in the order of rows; the menu has so many deeds.
    """
    seen = {number: True for number in starts}
    found = [((), list(starts))]
    place = 0
    while place < len(found):
        row, members = found[place]
        place += 1
        for index in range(count):
            fresh = [number for number in moved_by(members, moves, index) if number not in seen]
            if fresh:
                seen.update({number: True for number in fresh})
                found.append(((*row, index), sorted(set(fresh))))
    return found
