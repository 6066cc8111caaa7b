"""States in which deeds change nothing any more, and plays that come to them."""

from manysights.naming import check_names
from manysights.states import check_calls, explored, menu_of, nodes_of
from manysights.strong import components


def is_quiet(number, moves):
    """Tell whether all moves of a state lead to itself."""
    return all([other == number for _, other in moves[number]])


def quiet_ends(standing, menu, *, limit=500):
    """Return the quiet states that can be reached."""
    check_names(standing, nodes_of(menu))
    states, moves, _ = explored(standing, menu_of(menu), limit)
    return tuple([state for number, state in enumerate(states) if is_quiet(number, moves)])


class Settling:
    """Whether every fair play comes to a quiet state, or states among which one can stay."""

    def __init__(self, restless):
        self.settles = len(restless) == 0
        self.restless = restless


def is_restless(part, moves, count):
    """Tell whether a fair play can stay among these states, none of which is quiet."""
    if any([is_quiet(number, moves) for number in part]):
        return False
    listed = {number: True for number in part}
    inside = {index: True for number in part for index, other in moves[number] if other in listed}
    return len(inside) == count


def settles(standing, menu, *, limit=500):
    """Return whether every fair play comes to a quiet state."""
    check_names(standing, nodes_of(menu))
    check_calls(menu)
    states, moves, _ = explored(standing, menu_of(menu), limit)
    for part in components([[other for _, other in row] for row in moves]):
        if is_restless(part, moves, len(menu)):
            return Settling(tuple([states[number] for number in part]))
    return Settling(())
