"""Goals that we can reach again and again, whatever others do."""

from manysights.pricing import first_choice, priced
from manysights.strong import backward
from manysights.turns import Positions, Turns, check_turns, has_pieces, has_start, holds_in, least_under


class Again:
    """Whether we can reach a goal again and again, and the positions from which we cannot."""

    def __init__(self, sure, steps, levels):
        self.sure = sure
        self.steps = steps
        self.levels = levels


class Forcing:
    """Finds the positions from which we can force to come to one of some states at our turn."""

    def __init__(self, board, before_ours, before_theirs):
        self._before_ours = before_ours
        self._before_theirs = before_theirs
        self._replies_left = [len(row) for row in board.replies]
        self._left = [[len(others) for others in row] for row in board.choices]
        self._queue = []
        # Whether we can force it from each state, at our turn and at theirs.
        self.forced = [[False] * len(board.states), [False] * len(board.states)]

    def _force_theirs(self, number):
        """Note that we can force it from a state at their turn."""
        self.forced[1][number] = True
        for state, choice in self._before_ours[number]:
            self._left[state][choice] -= 1
            if self._left[state][choice] == 0:
                self._queue.append(state)

    def _force_ours(self, number):
        """Note that we can force it from a state at our turn."""
        self.forced[0][number] = True
        for state in self._before_theirs[number]:
            self._replies_left[state] -= 1
            if self._replies_left[state] == 0:
                self._force_theirs(state)

    def work_out(self, aims):
        """Find all positions; the aims are the states to come to."""
        self._queue.extend(aims)
        while self._queue:
            number = self._queue.pop()
            if not self.forced[0][number]:
                self._force_ours(number)


class Leveling:
    """Finds how often we can force to come to the goal.

    `levels` has, at our turn and at theirs, for each state the least number of
    times that we cannot force, or None as long as we can force all so far.
    """

    def __init__(self, board, goals):
        self._board = board
        self._goals = goals
        self._before_theirs = backward(board.replies)
        self._before_ours = board.choices_with()
        self.levels = [[None] * len(board.states), [None] * len(board.states)]

    def _goes_on(self, number):
        """Tell whether we can go on from a goal so that we can force all so far."""
        for others in self._board.choices[number]:
            if all([self.levels[1][other] is None for other in others]):
                return True
        return False

    def _drop(self, level, turn, forced):
        """Give the level to all states where we cannot force so many times; tell whether there are any."""
        dropped = [number for number, holding in enumerate(forced)
                   if not holding and self.levels[turn][number] is None]
        for number in dropped:
            self.levels[turn][number] = level
        return len(dropped) > 0

    def work_out(self):
        """Find all levels."""
        level, changed = 0, True
        while changed:
            level += 1
            forcing = Forcing(self._board, self._before_ours, self._before_theirs)
            forcing.work_out([number for number in self._goals
                              if self.levels[0][number] is None and self._goes_on(number)])
            changed = any([self._drop(level, turn, forcing.forced[turn]) for turn in (0, 1)])


def choice_at(row, worths, rank):
    """Return None if we can keep to the rank by waiting, otherwise the least index of a deed with which we can."""
    # At rank 0 any next turn will do.
    bound = rank - 1 if rank > 0 else len(worths)
    choice = first_choice(row, worths, [bound] * len(row))
    return None if choice == 0 else choice - 1


def again(standing, ours, theirs, goal, *, limit=500):
    """Return whether we can act so that the goal holds at infinitely many of our turns."""
    check_turns(standing, ours, theirs, (goal,))
    board = Positions(standing, ours, theirs, limit)
    goals = [number for number, holding in enumerate(board.truths(goal)) if holding]
    leveling = Leveling(board, goals)
    leveling.work_out()
    levels = leveling.levels
    fine = [level is None for level in levels[0]]
    ranks, worths = priced(board, fine, [1] * (len(ours) + 1), [number for number in goals if fine[number]])
    steps = []
    for number, state in enumerate(board.states):
        if fine[number]:
            steps.append((state, choice_at(board.choices[number], worths, ranks[number]), ranks[number]))
    return Again(all([fine[number] for number in board.starts]), tuple(steps), board.triples(levels))


def goes_on(turns, step, goal, least):
    """Tell whether a triple meets the conditions of a table that shows that we can again and again."""
    state, choice, rank = step
    if rank < 0 or not turns.is_choice(choice) or (rank == 0 and not holds_in(state, goal)):
        return False
    for other in turns.after_choice(state, choice):
        for key in turns.reply_keys(other):
            if key not in least or (rank > 0 and least[key] >= rank):
                return False
    return True


def is_again(standing, ours, theirs, goal, steps):
    """Tell whether the table of triples shows that we can reach the goal again and again."""
    check_turns(standing, ours, theirs, (goal,))
    least = least_under([(state.key, rank) for state, _, rank in steps])
    if not has_pieces(standing, least):
        return False
    turns = Turns(ours, theirs)
    return all([goes_on(turns, step, goal, least) for step in steps])


def is_bounded(turns, step, goal, least):
    """Tell whether a triple meets the conditions of a table that shows that we cannot again and again."""
    state, turn, level = step
    if level < 1:
        return False
    bound = level - 1 if turn == 0 and holds_in(state, goal) else level
    return turns.leads_within(state, turn, bound, least)


def is_no_again(standing, ours, theirs, goal, levels):
    """Tell whether the table of triples shows that we cannot reach the goal again and again."""
    check_turns(standing, ours, theirs, (goal,))
    least = least_under([((state.key, turn), level) for state, turn, level in levels])
    if not has_start(standing, least):
        return False
    turns = Turns(ours, theirs)
    return all([is_bounded(turns, step, goal, least) for step in levels])
