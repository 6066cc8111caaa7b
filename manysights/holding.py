"""Claims that we can make hold for ever, whatever others do."""

from manysights.pieces import pieces
from manysights.strong import backward
from manysights.turns import Positions, Turns, check_turns, has_pieces, holds_in


class Holding:
    """Whether we can hold a claim, with what we do and with the positions from which we cannot."""

    def __init__(self, sure, steps, bad):
        self.sure = sure
        self.steps = steps
        self.bad = bad


class Losing:
    """Finds the positions from which we cannot hold, those with lesser ranks first."""

    def __init__(self, board):
        self._before_theirs = backward(board.replies)
        self._before_ours = board.choices_with()
        self._hit = [[False] * len(row) for row in board.choices]
        self._queue = []
        # The ranks of all states, at our turn and at theirs.
        self.ranks = [[None] * len(board.states), [None] * len(board.states)]

    def _rank(self, number, turn, rank):
        """Give a position its rank if it has none."""
        if self.ranks[turn][number] is None:
            self.ranks[turn][number] = rank
            self._queue.append((number, turn))

    def _spoil(self, number, rank):
        """Note that the choices after which this state can come do not hold."""
        for state, choice in self._before_ours[number]:
            self._hit[state][choice] = True
            if all(self._hit[state]):
                self._rank(state, 0, rank)

    def work_out(self, wrong):
        """Find all ranks; those of the states where the claim does not hold are 0."""
        for number in wrong:
            self._rank(number, 0, 0)
            self._rank(number, 1, 0)
        place = 0
        while place < len(self._queue):
            number, turn = self._queue[place]
            place += 1
            rank = self.ranks[turn][number] + 1
            if turn == 1:
                self._spoil(number, rank)
            else:
                for state in self._before_theirs[number]:
                    self._rank(state, 1, rank)


def holding_choice(row, ranks):
    """Return None if we can go on by waiting, otherwise the least index of a deed with which we can."""
    for choice, others in enumerate(row):
        if all([ranks[1][number] is None for number in others]):
            return None if choice == 0 else choice - 1
    return None


def hold(standing, ours, theirs, claim, *, limit=500):
    """Return whether we can act so that the claim holds at every turn for ever."""
    check_turns(standing, ours, theirs, (claim,))
    board = Positions(standing, ours, theirs, limit)
    losing = Losing(board)
    losing.work_out([number for number, holding in enumerate(board.truths(claim)) if not holding])
    ranks = losing.ranks
    steps, bad = [], []
    for number, state in enumerate(board.states):
        if ranks[0][number] is None:
            steps.append((state, holding_choice(board.choices[number], ranks)))
        found = [(state, turn, ranks[turn][number]) for turn in (0, 1)]
        bad.extend([row for row in found if row[2] is not None])
    sure = all([ranks[0][number] is None for number in board.starts])
    return Holding(sure, tuple(steps), tuple(bad))


def keeps_on(turns, state, choice, claim, listed):
    """Tell whether a pair meets the conditions of a table that shows that we hold the claim."""
    if not turns.is_choice(choice) or not holds_in(state, claim):
        return False
    for other in turns.after_choice(state, choice):
        if not holds_in(other, claim):
            return False
        if not all([key in listed for key in turns.reply_keys(other)]):
            return False
    return True


def is_holding(standing, ours, theirs, claim, steps):
    """Tell whether the table of pairs shows that we hold the claim."""
    check_turns(standing, ours, theirs, (claim,))
    listed = {state.key: True for state, _ in steps}
    if not has_pieces(pieces(standing), listed):
        return False
    turns = Turns(ours, theirs)
    return all([keeps_on(turns, state, choice, claim, listed) for state, choice in steps])


def is_below(key, turn, rank, least):
    """Tell whether the table has this position with a lesser rank."""
    return (key, turn) in least and least[(key, turn)] < rank


def is_failing(turns, step, claim, least):
    """Tell whether a triple meets the conditions of a table that shows that we cannot hold the claim."""
    state, turn, rank = step
    if rank < 0:
        return False
    if not holds_in(state, claim):
        return True
    if turn == 1:
        return any([is_below(key, 0, rank, least) for key in turns.reply_keys(state)])
    for choice in turns.all_choices():
        if not any([is_below(other.key, 1, rank, least) for other in turns.after_choice(state, choice)]):
            return False
    return True


def is_no_holding(standing, ours, theirs, claim, bad):
    """Tell whether the table of triples shows that we cannot hold the claim."""
    check_turns(standing, ours, theirs, (claim,))
    least = {}
    for state, turn, rank in bad:
        key = (state.key, turn)
        least[key] = min(rank, least.get(key, rank))
    if not any([(piece.key, 0) in least for piece in pieces(standing)]):
        return False
    turns = Turns(ours, theirs)
    return all([is_failing(turns, step, claim, least) for step in bad])
