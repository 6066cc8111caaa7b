"""Plays of turns: what can come after what we do and after what others do."""

from manysights.meanings import meaning_of
from manysights.naming import check_names
from manysights.pieces import pieces
from manysights.states import check_calls, explored, menu_of, nodes_of, states_after


def check_turns(standing, ours, theirs, claims):
    """Raise an error for an unknown name, then for the first deed of ours with a call."""
    told = [claim.node for claim in claims if claim is not None]
    check_names(standing, nodes_of(ours) + nodes_of(theirs) + told)
    check_calls(ours)


def holds_in(state, claim):
    """Tell whether the claim holds at all deals of the state; None stands for one that always holds."""
    return claim is None or all(meaning_of(state, claim.node))


class Positions:
    """All states that can come, under numbers.

    `starts` has the pieces. `choices` has for each state what can come if we
    wait, and what can come after each deed of ours. `replies` has for each
    state what can come after their turn.
    """

    def __init__(self, standing, ours, theirs, limit):
        count = len(ours)
        menu = menu_of(ours) + menu_of(theirs)
        self.states, moves, self.starts = explored(standing, menu, limit)
        self.choices = []
        self.replies = []
        for number, row in enumerate(moves):
            own = [[other for index, other in row if index == deed] for deed in range(count)]
            self.choices.append([[number]] + own)
            self.replies.append(sorted(set([number] + [other for index, other in row if index >= count])))

    def truths(self, claim):
        """Return for each state whether the claim holds in it."""
        return [holds_in(state, claim) for state in self.states]

    def triples(self, rows):
        """Return a triple (state, turn, number) for each position that has a number in the rows of both turns."""
        found = []
        for number, state in enumerate(self.states):
            found.extend([(state, turn, rows[turn][number]) for turn in (0, 1) if rows[turn][number] is not None])
        return tuple(found)

    def choices_with(self):
        """Return for each state the pairs (state, choice) after which it can come."""
        found = [[] for _ in self.states]
        for number, row in enumerate(self.choices):
            for choice, others in enumerate(row):
                for other in others:
                    found[other].append((number, choice))
        return found


class Turns:
    """What can follow from states that are passed in tables."""

    def __init__(self, ours, theirs):
        self._ours = menu_of(ours)
        self._theirs = menu_of(theirs)
        self._replies = {}

    def is_choice(self, choice):
        """Tell whether this is an index of our deeds, or None."""
        return choice is None or 0 <= choice < len(self._ours)

    def after_choice(self, state, choice):
        """Return the states that can come after a deed of ours, or after waiting."""
        return (state,) if choice is None else states_after(state, self._ours[choice])

    def all_choices(self):
        """Return all that we can choose: to wait, and the index of each deed of ours."""
        return [None] + list(range(len(self._ours)))

    def reply_keys(self, state):
        """Return the keys of the states that can come after their turn."""
        key = state.key
        if key not in self._replies:
            found = [key]
            for singles in self._theirs:
                found.extend([other.key for other in states_after(state, singles)])
            self._replies[key] = found
        return self._replies[key]

    def leads_within(self, state, turn, bound, least):
        """Tell whether they lead, or we must lead, to a position that `least` has with at most this number."""
        if turn == 1:
            return any([is_within((key, 0), bound, least) for key in self.reply_keys(state)])
        for choice in self.all_choices():
            if not any([is_within((other.key, 1), bound, least) for other in self.after_choice(state, choice)]):
                return False
        return True


def is_within(key, bound, least):
    """Tell whether there is a number of at most this bound under a key."""
    return key in least and least[key] <= bound


def least_under(pairs):
    """Return for each key the least number that stands beside it."""
    found = {}
    for key, number in pairs:
        found[key] = min(number, found.get(key, number))
    return found


def has_pieces(standing, listed):
    """Tell whether the keys of all pieces are listed."""
    return all([piece.key in listed for piece in pieces(standing)])


def has_start(standing, listed):
    """Tell whether the key of a piece is listed with our turn."""
    return any([(piece.key, 0) in listed for piece in pieces(standing)])
