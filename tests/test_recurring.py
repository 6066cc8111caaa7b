"""Points 18, 64 and 65: goals that we reach again and again, and tables that show it."""

import random
import time
import unittest

from manysights.claims import Claim
from manysights.deeds import Deed
from manysights.errors import HasCall, TooManyStates, UnknownFact, UnknownParty
from manysights.pieces import pieces
from manysights.recurring import again, is_again, is_no_again
from manysights.standings import Standing
from manysights.views import View
from tests.helpers import Fails, digit_step
from tests.turns import INF, Game, PlainTurns, holds_in, random_facts, random_game, spoilt

CALL, WAIT, UP = Deed.call(Claim.always()), Deed.row([]), digit_step("f", 4)


def fact(digit, name="f"):
    """Return the claim that a fact has a digit."""
    return Claim.fact(name, digit)


def to(digit, *cases):
    """Return the deed that gives f a digit in certain cases, or in every case."""
    return Deed.change([("f", [(case, digit) for case in cases or (Claim.always(),)])])


def table(first=0, other=0):
    """Return a standing of two deals in one piece."""
    return Standing(2).with_fact("f", [first, other]).with_fact("g", [0, 0]).with_party("a", [0, 0])


def fits_again(standing, ours, theirs, goal, steps):
    """Tell whether a table shows that we can again and again, by the words of point 65."""
    turns = PlainTurns(ours, theirs)
    if not all(any(state == piece for state, _, _ in steps) for piece in pieces(standing)):
        return False
    for state, choice, rank in steps:
        if rank < 0 or (choice is not None and not 0 <= choice < len(ours)):
            return False
        if rank == 0 and not holds_in(state, goal):
            return False
        for one in turns.choices(state)[0 if choice is None else choice + 1]:
            for last in turns.replies(one):
                if not any(other == last and (less < rank or rank == 0) for other, _, less in steps):
                    return False
    return True


def fits_no_again(standing, ours, theirs, goal, levels):
    """Tell whether a table shows that we cannot again and again, by the words of point 65."""
    turns = PlainTurns(ours, theirs)

    def has(state, turn, most):
        return any(one == state and at == turn and level <= most for one, at, level in levels)

    if not any(has(piece, 0, INF) for piece in pieces(standing)):
        return False
    for state, turn, level in levels:
        most = level - int(turn == 0 and holds_in(state, goal))
        if level < 1:
            return False
        if turn == 1 and not any(has(one, 0, most) for one in turns.replies(state)):
            return False
        if turn == 0 and not all(any(has(one, 1, most) for one in row) for row in turns.choices(state)):
            return False
    return True


class AgainTest(Fails, unittest.TestCase):
    def check(self, standing, ours, theirs, goal):
        """Check the words of point 64 and return the result."""
        found = again(standing, ours, theirs, goal, limit=2000)
        game = Game(standing, ours, theirs)
        goals = {number: True for number, state in enumerate(game.states) if holds_in(state, goal)}
        visits = game.visits(goals)
        fine = [often == INF for often in visits[0]]
        ranks = game.prices(goals, fine, [1] * (len(ours) + 1))
        worths = game.worths(ranks)
        steps, levels = [], []
        for number, state in enumerate(game.states):
            if fine[number]:
                most = ranks[number] - 1 if ranks[number] else INF - 1
                kept = [index for index, row in enumerate(game.after[number]) if max(worths[x] for x in row) <= most]
                steps.append((state, kept[0] - 1 if kept[0] else None, ranks[number]))
            levels.extend((state, turn, visits[turn][number] + 1) for turn in (0, 1) if visits[turn][number] < INF)
        self.assertIs(found.sure, all(fine[number] for number in game.starts))
        self.assertEqual(found.steps, tuple(steps))
        self.assertEqual(found.levels, tuple(levels))
        self.assert_tuples((found.steps, found.levels))
        return found

    def test_examples(self):
        found = self.check(table(), [UP], [], fact(2))
        self.assertEqual((found.sure, found.levels), (True, ()))
        # At the goal we can wait for ever.
        self.assertEqual([row[1:] for row in found.steps], [(0, 2), (0, 1), (None, 0), (0, 4), (0, 3)])
        # They can stop us once and for all after the goal held once, or some times.
        found = self.check(table(), [WAIT], [to(4, fact(0))], fact(0))
        self.assertEqual((found.sure, found.steps), (False, ()))
        self.assertEqual([row[1:] for row in found.levels], [(0, 2), (1, 1), (0, 1), (1, 1)])
        found = self.check(table(), [WAIT], [UP], ~fact(4))
        self.assertIs(found.sure, False)
        self.assertEqual([row[1:] for row in found.levels][:4], [(0, 5), (1, 4), (0, 4), (1, 3)])
        # The goal counts at our turns alone.
        found = self.check(table(), [to(1, fact(0))], [to(0, fact(1))], fact(1))
        self.assertIs(found.sure, False)

    def test_waiting_and_rank_0(self):
        # At the goal only a deed lets us go on: they spoil all if they find the goal at their turn.
        ours, theirs = [WAIT, to(1, fact(0)), to(0)], [to(4, fact(0))]
        found = self.check(table(), ours, theirs, fact(0))
        self.assertIs(found.sure, False)
        found = self.check(table(), ours + [to(3, fact(0))], [to(4, fact(0)), to(0, fact(3))], fact(0) | fact(4))
        self.assertIs(found.sure, True)

    def test_ranks_stay_among_the_states(self):
        # The quickest goal is one after which they stop us.
        ours = [to(1, fact(0)), to(2, fact(0)), to(3, fact(2))]
        found = self.check(table(), ours, [to(4, fact(1))], fact(1) | fact(3))
        self.assertEqual((found.sure, found.steps[0]), (True, (table(), 1, 2)))
        theirs = [Deed.change([("f", [(fact(1), 5), (fact(5), 4)])])]
        found = self.check(table(), ours, theirs, fact(1) | fact(5) | fact(3))
        self.assertEqual((found.sure, found.steps[0]), (True, (table(), 1, 2)))

    def test_against_a_search(self):
        chance = random.Random(64)
        count, levels, ranks, choices = [0, 0], {}, {}, {}
        for _ in range(300):
            standing, ours, theirs = random_game(chance)
            goal = chance.choice([random_facts(chance), ~random_facts(chance)])
            found = self.check(standing, ours, theirs, goal)
            count[found.sure] += 1
            levels.update({level: True for _, _, level in found.levels})
            ranks.update({rank: True for _, _, rank in found.steps})
            choices.update({(rank == 0, choice): True for _, choice, rank in found.steps})
            if len(found.steps) + len(found.levels) < 60:
                self.assertIs(is_again(standing, ours, theirs, goal, found.steps), found.sure)
                self.assertIs(is_no_again(standing, ours, theirs, goal, found.levels), not found.sure)
        self.assertGreater(min(count), 40)
        self.assertGreater(len(levels), 2)
        self.assertGreater(len(ranks), 3)
        self.assertGreater(len(choices), 3)

    def test_errors(self):
        wrong = [CALL, Deed.announce(View.value("x")), Deed.forget("q", View.value("y"))]
        none = Claim.knows("p", fact(1, "z"))
        for call, rest in ((again, ()), (is_again, ([],)), (is_no_again, ([],))):
            self.assert_error(UnknownFact, {"name": "x"}, call, table(), wrong, wrong[::-1], none, *rest)
            self.assert_error(UnknownParty, {"name": "q"}, call, table(), [CALL], wrong[::-1], none, *rest)
            self.assert_error(UnknownParty, {"name": "p"}, call, table(), [CALL], [CALL], none, *rest)
            self.assert_error(HasCall, {"index": 1}, call, table(), [UP, Deed.row([WAIT, CALL])], [CALL], fact(1), *rest)
        self.assert_error(HasCall, {"index": 0}, again, table(), [CALL, UP], [], fact(1), limit=1)
        self.assert_error(TooManyStates, {"limit": 9}, again, table(), [UP], [digit_step("g", 1)], fact(1), limit=9)
        again(table(), [UP], [digit_step("g", 1)], fact(1), limit=10)
        big = table().with_fact("h", [0, 0])
        menu = [digit_step("f", 9), digit_step("g", 9), digit_step("h", 9)]
        self.assert_error(TooManyStates, {"limit": 500}, again, big, menu[:1], menu[1:], fact(1))

    def test_largest(self):
        start = time.time()
        standing = Standing(6)
        for name in "fghijk":
            standing = standing.with_fact(name, [0] * 6)
        for name in "abcdef":
            standing = standing.with_party(name, [0] * 6)
        up = [Deed.change([(name, [(fact(digit, name), digit + 1) for digit in range(9)])]) for name in "fgh"]
        top = fact(9, "f") & fact(9, "g") & fact(9, "h")
        ours, theirs = [WAIT, digit_step("i", 1)] + [WAIT] * 4, up + [WAIT] * 3
        found = again(standing, ours, theirs, ~top, limit=2000)
        self.assertEqual((found.sure, len(found.levels), max(row[2] for row in found.levels)), (False, 4000, 28))
        self.assertIs(is_no_again(standing, ours, theirs, ~top, found.levels), True)
        found = again(standing, up + [digit_step("i", 1)], [WAIT] * 6, top & fact(1, "i"), limit=2000)
        self.assertEqual((found.sure, len(found.steps), max(row[2] for row in found.steps)), (True, 2000, 28))
        self.assertIs(is_again(standing, up + [digit_step("i", 1)], [WAIT] * 6, top & fact(1, "i"), found.steps), True)
        self.assertLess(time.time() - start, 30)


class TablesTest(Fails, unittest.TestCase):
    def test_again(self):
        ours, theirs, goal = [UP], [WAIT], fact(2)
        found = again(table(), ours, theirs, goal)
        states = {state.digits("f")[0]: state for state, _, _ in found.steps}
        right = [(states[0], 0, 7), (states[1], 0, 5), (states[2], None, 0)]
        self.assertIs(is_again(table(), ours, theirs, goal, right), True)
        self.assertIs(is_again(table(), ours, theirs, goal, [list(row) for row in right[::-1]] + right), True)
        # At rank 0 any state of the table may follow.
        way = [(states[digit], 0, (2 - digit) % 5) for digit in range(5)]
        self.assertIs(is_again(table(), ours, theirs, goal, way), True)
        self.assertIs(is_again(table(), ours, theirs, goal, way[:4]), False)
        self.assertIs(is_again(table(), ours, theirs, goal, right + [(states[1], None, 6)]), True)
        for row in ((states[2], 0, 0), (states[1], None, 5), (states[1], 0, 0), (states[2], None, -1), (states[0], 0, 5),
                    (states[2], 1, 0), (states[2], -1, 0)):
            self.assertIs(is_again(table(), ours, theirs, goal, right + [row]), False)
        self.assertIs(is_again(table(), ours, theirs, goal, right[1:]), False)
        self.assertIs(is_again(table(), ours, theirs, goal, []), False)

    def test_no_again(self):
        ours, theirs, goal = [WAIT], [to(4, fact(0))], fact(0)
        levels = again(table(), ours, theirs, goal).levels
        self.assertIs(is_no_again(table(), ours, theirs, goal, levels), True)
        self.assertIs(is_no_again(table(), ours, theirs, goal, [(s, t, level * 2) for s, t, level in levels]), True)
        self.assertIs(is_no_again(table(), ours, theirs, goal, [(s, t, level - 1) for s, t, level in levels]), False)
        self.assertIs(is_no_again(table(), ours, theirs, goal, levels[1:]), False)
        self.assertIs(is_no_again(table(), ours, theirs, goal, []), False)

    def test_random_tables(self):
        chance = random.Random(65)
        count = [[0, 0], [0, 0]]
        for _ in range(250):
            standing, ours, theirs = random_game(chance)
            goal = chance.choice([random_facts(chance), ~random_facts(chance)])
            found = again(standing, ours, theirs, goal, limit=2000)
            for _ in range(4 if len(found.steps) + len(found.levels) < 50 else 0):
                if found.steps:
                    steps = spoilt(chance, found.steps, len(ours), False)
                    expected = fits_again(standing, ours, theirs, goal, steps)
                    self.assertIs(is_again(standing, ours, theirs, goal, steps), expected)
                    count[0][expected] += 1
                if found.levels:
                    levels = spoilt(chance, found.levels, len(ours), True)
                    expected = fits_no_again(standing, ours, theirs, goal, levels)
                    self.assertIs(is_no_again(standing, ours, theirs, goal, levels), expected)
                    count[1][expected] += 1
        self.assertGreater(min(count[0] + count[1]), 20)


if __name__ == "__main__":
    unittest.main()
