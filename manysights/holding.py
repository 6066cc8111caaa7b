"""Claims that we can make hold for ever, whatever others do."""

from manysights.strong import backward
from manysights.turns import Positions, Turns, check_turns, has_pieces, has_start, holds_in, least_under


class Holding:
    """Whether we can hold a claim, with what we do and with the positions from which we cannot."""

    def __init__(self, sure, steps, bad):
        self.sure = sure
        self.steps = steps
        self.bad = bad


class Losing:
    """Finds the positions from which we cannot hold, those with lesser ranks first."""

    def __init__(self, board):
        self._before_theirs = backward(board.replies)
        self._before_ours = board.choices_with()
        self._hit = [[False] * len(row) for row in board.choices]
        self._queue = []
        # The ranks of all states, at our turn and at theirs.
        self.ranks = [[None] * len(board.states), [None] * len(board.states)]

    def _rank(self, number, turn, rank):
        """Give a position its rank if it has none."""
        if self.ranks[turn][number] is None:
            self.ranks[turn][number] = rank
            self._queue.append((number, turn))

    def _spoil(self, number, rank):
        """Note that the choices after which this state can come do not hold."""
        for state, choice in self._before_ours[number]:
            self._hit[state][choice] = True
            if all(self._hit[state]):
                self._rank(state, 0, rank)

    def work_out(self, wrong):
        """Find all ranks; those of the states where the claim does not hold are 0."""
        for number in wrong:
            self._rank(number, 0, 0)
            self._rank(number, 1, 0)
        place = 0
        while place < len(self._queue):
            number, turn = self._queue[place]
            place += 1
            rank = self.ranks[turn][number] + 1
            if turn == 1:
                self._spoil(number, rank)
            else:
                for state in self._before_theirs[number]:
                    self._rank(state, 1, rank)


def holding_choice(row, ranks):
    """Return None if we can go on by waiting, otherwise the least index of a deed with which we can."""
    for choice, others in enumerate(row):
        if all([ranks[1][number] is None for number in others]):
            return None if choice == 0 else choice - 1
    return None


def hold(standing, ours, theirs, claim, *, limit=500):
    """Return whether we can act so that the claim holds at every turn for ever."""
    check_turns(standing, ours, theirs, (claim,))
    board = Positions(standing, ours, theirs, limit)
    losing = Losing(board)
    losing.work_out([number for number, holding in enumerate(board.truths(claim)) if not holding])
    ranks = losing.ranks
    steps = []
    for number, state in enumerate(board.states):
        if ranks[0][number] is None:
            steps.append((state, holding_choice(board.choices[number], ranks)))
    sure = all([ranks[0][number] is None for number in board.starts])
    return Holding(sure, tuple(steps), board.triples(ranks))


def keeps_on(turns, state, choice, claim, listed):
    """Tell whether a pair meets the conditions of a table that shows that we hold the claim."""
    if not turns.is_choice(choice) or not holds_in(state, claim):
        return False
    for other in turns.after_choice(state, choice):
        if not holds_in(other, claim):
            return False
        if not all([key in listed for key in turns.reply_keys(other)]):
            return False
    return True


def is_holding(standing, ours, theirs, claim, steps):
    """Tell whether the table of pairs shows that we hold the claim."""
    check_turns(standing, ours, theirs, (claim,))
    listed = {state.key: True for state, _ in steps}
    if not has_pieces(standing, listed):
        return False
    turns = Turns(ours, theirs)
    return all([keeps_on(turns, state, choice, claim, listed) for state, choice in steps])


def is_failing(turns, step, claim, least):
    """Tell whether a triple meets the conditions of a table that shows that we cannot hold the claim."""
    state, turn, rank = step
    if rank < 0:
        return False
    return not holds_in(state, claim) or turns.leads_within(state, turn, rank - 1, least)


def is_no_holding(standing, ours, theirs, claim, bad):
    """Tell whether the table of triples shows that we cannot hold the claim."""
    check_turns(standing, ours, theirs, (claim,))
    least = least_under([((state.key, turn), rank) for state, turn, rank in bad])
    if not has_start(standing, least):
        return False
    turns = Turns(ours, theirs)
    return all([is_failing(turns, step, claim, least) for step in bad])
