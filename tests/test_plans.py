"""Points 18 and 58 to 61: plans, their prices, and tables that show them."""

import random
import time
import unittest

from manysights.claims import Claim
from manysights.deeds import Deed
from manysights.errors import HasCall, TooManyStates, UnknownFact, UnknownParty
from manysights.pieces import pieces
from manysights.plans import is_no_plan, is_plan, plan
from manysights.standings import Standing
from manysights.views import View
from tests.helpers import Fails, digit_step
from tests.turns import INF, Game, PlainTurns, holds_in, random_facts, random_game, spoilt

CALL = Deed.call(Claim.always())
UP, WAIT = digit_step("f", 4), Deed.row([])


def fact(digit, name="f"):
    """Return the claim that a fact has a digit."""
    return Claim.fact(name, digit)


def table(first=0, other=0):
    """Return a standing of two deals in one piece."""
    return Standing(2).with_fact("f", [first, other]).with_fact("g", [0, 0]).with_party("a", [0, 0])


def fits_plan(standing, ours, theirs, goal, steps, keep, costs):
    """Tell whether a table shows a plan, by the words of point 61."""
    turns = PlainTurns(ours, theirs)
    rows = [(state, price) for state, _, price in steps]
    if not all(any(state == piece for state, _ in rows) for piece in pieces(standing)):
        return False
    for state, choice, price in steps:
        if price < 0 or not holds_in(state, keep):
            return False
        if choice is None:
            if not holds_in(state, goal):
                return False
        elif not 0 <= choice < len(ours):
            return False
        else:
            for other in turns.choices(state)[choice + 1]:
                if not holds_in(other, keep):
                    return False
                for last in turns.replies(other):
                    if not any(one == last and worth <= price - costs[choice] for one, worth in rows):
                        return False
    return True


def fits_no_plan(standing, ours, theirs, goal, bad, keep):
    """Tell whether a table shows that there is no plan, by the words of point 61."""
    turns = PlainTurns(ours, theirs)
    bad = [tuple(row) for row in bad]
    if not any((piece, 0) in bad for piece in pieces(standing)):
        return False
    for state, turn in bad:
        if not holds_in(state, keep):
            continue
        if turn == 1:
            if not any((other, 0) in bad for other in turns.replies(state)):
                return False
        elif holds_in(state, goal):
            return False
        elif not all(any((other, 1) in bad for other in row) for row in turns.choices(state)[1:]):
            return False
    return True


class PlanTest(Fails, unittest.TestCase):
    def check(self, standing, ours, theirs, goal, keep, costs):
        """Check the words of points 59 and 60 and return the plan."""
        named = {name: value for name, value in (("keep", keep), ("costs", costs)) if value is not None}
        found = plan(standing, ours, theirs, goal, limit=2000, **named)
        game = Game(standing, ours, theirs)
        fine = [holds_in(state, keep) for state in game.states]
        goals = [number for number, state in enumerate(game.states) if holds_in(state, goal)]
        paid = [INF] + (costs or [1] * len(ours))
        prices = game.prices(goals, fine, paid)
        worths = game.worths(prices)
        steps, bad = [], []
        for number, state in enumerate(game.states):
            if prices[number] == INF:
                bad.append((state, 0))
            else:
                kept = [index for index, others in enumerate(game.after[number][1:])
                        if max(worths[other] for other in others) + paid[index + 1] <= prices[number]]
                steps.append((state, kept[0] if prices[number] else None, prices[number]))
            if worths[number] == INF or not fine[number]:
                bad.append((state, 1))
        worst = max(prices[number] for number in game.starts)
        self.assertIs(found.sure, worst < INF)
        self.assertEqual(found.cost, worst if worst < INF else None)
        self.assertEqual(found.steps, tuple(steps))
        self.assertEqual(found.bad, () if worst < INF else tuple(bad))
        self.assert_tuples((found.steps, found.bad))
        return found

    def test_examples(self):
        found = self.check(table(), [UP], [], fact(2), None, None)
        self.assertEqual((found.sure, found.cost), (True, 2))
        self.assertEqual([(choice, price) for _, choice, price in found.steps], [(0, 2), (0, 1), (None, 0), (0, 4), (0, 3)])
        # The goal holds at once.
        self.assertEqual(self.check(table(), [UP], [], fact(0), None, None).cost, 0)
        # What is to be kept fails at once, and on the way.
        self.assertIs(self.check(table(), [UP], [], fact(0), fact(1), None).sure, False)
        self.assertIs(self.check(table(), [UP], [], fact(3), ~fact(2), None).sure, False)
        self.assertIs(self.check(table(), [UP, digit_step("g", 1)], [], fact(3), ~fact(2), None).sure, False)
        # They may wait, but not be counted on.
        both = [Deed.change([("f", [(fact(0), 1), (fact(1), 2)])])]
        self.assertEqual(self.check(table(), both, [UP], fact(2), None, None).sure, False)
        self.assertEqual(self.check(table(), both, [WAIT], fact(2), None, None).cost, 2)

    def test_costs_and_choices(self):
        jump = Deed.change([("f", [(fact(0), 4)])])
        self.assertEqual(self.check(table(), [UP, jump], [], fact(4), None, None).steps[0][1:], (1, 1))
        self.assertEqual(self.check(table(), [UP, jump], [], fact(4), None, [1, 5]).steps[0][1:], (0, 4))
        self.assertEqual(self.check(table(), [UP, jump], [], fact(4), None, [2, 8]).steps[0][1:], (0, 8))
        self.assertEqual(self.check(table(), [jump, UP], [], fact(4), None, [4, 1]).steps[0][1:], (0, 4))
        self.assertEqual(self.check(table(), [jump, UP], [], fact(4), None, [99, 98]).cost, 99)

    def test_pieces_and_hidden_deals(self):
        standing = Standing(3).with_fact("f", [0, 1, 2]).with_fact("g", [0, 0, 0]).with_party("a", [0, 1, 1])
        show = Deed.announce(View.value("f"))
        knows = Claim.knows("a", fact(1)) | Claim.knows("a", fact(2)) | Claim.knows("a", fact(0))
        found = self.check(standing, [show], [], knows, None, [7])
        self.assertEqual((found.sure, found.cost), (True, 7))
        self.assertEqual(found.steps[0][1:], (None, 0))
        # A claim holds in a state if it holds at all its deals.
        self.assertIs(self.check(standing, [show], [], fact(1) | fact(0), None, None).sure, False)

    def test_positions_that_no_play_comes_to(self):
        found = self.check(table(), [UP], [Deed.change([("f", [(fact(1), 0)])])], fact(3), None, None)
        self.assertIs(found.sure, False)
        digits = [(state.digits("f")[0], turn) for state, turn in found.bad]
        self.assertEqual(digits, [(0, 0), (0, 1), (1, 1), (4, 0), (4, 1)])

    def test_against_a_search(self):
        chance = random.Random(60)
        count = [0, 0]
        priced = {}
        for _ in range(250):
            standing, ours, theirs = random_game(chance)
            keep = chance.choice([None, None, random_facts(chance), ~fact(0) | fact(0, "g")])
            costs = chance.choice([None, [chance.randint(1, 3) for _ in ours]])
            found = self.check(standing, ours, theirs, random_facts(chance), keep, costs)
            count[found.sure] += 1
            priced[found.cost] = True
        self.assertGreater(min(count), 40)
        self.assertGreater(len(priced), 4)

    def test_errors(self):
        wrong = [CALL, Deed.announce(View.value("x")), Deed.forget("q", View.value("y"))]
        none = Claim.knows("p", fact(1, "z"))
        for call, rest in ((plan, ()), (is_plan, ([],)), (is_no_plan, ([],))):
            self.assert_error(UnknownFact, {"name": "x"}, call, table(), wrong, wrong[::-1], none, *rest)
            self.assert_error(UnknownParty, {"name": "q"}, call, table(), [CALL], wrong[::-1], none, *rest)
            self.assert_error(UnknownParty, {"name": "p"}, call, table(), [CALL], [CALL], none, *rest, keep=fact(1, "w"))
            self.assert_error(UnknownFact, {"name": "w"}, call, table(), [CALL], [CALL], fact(1), *rest, keep=fact(1, "w"))
            self.assert_error(HasCall, {"index": 0}, call, table(), [CALL], [CALL], fact(1), *rest)
            deep = Deed.row([WAIT, Deed.row([WAIT, CALL])])
            self.assert_error(HasCall, {"index": 1}, call, table(), [UP, deep, CALL], [], fact(1), *rest)
        self.assert_error(HasCall, {"index": 0}, plan, table(), [CALL, UP], [], fact(1), limit=1)
        self.assert_error(TooManyStates, {"limit": 9}, plan, table(), [UP], [digit_step("g", 1)], fact(1), limit=9)
        self.assertIs(plan(table(), [UP], [digit_step("g", 1)], fact(1), limit=10).sure, True)
        big = table().with_fact("h", [0, 0])
        menu = [digit_step("f", 9), digit_step("g", 9), digit_step("h", 9)]
        self.assert_error(TooManyStates, {"limit": 500}, plan, big, menu, [], fact(1))
        # Their calls are allowed.
        self.assertIs(plan(table(0, 1), [UP], [Deed.call(fact(1))], ~fact(9), limit=50).sure, True)

    def test_largest(self):
        start = time.time()
        standing = Standing(6)
        for name in "fghijk":
            standing = standing.with_fact(name, [0] * 6)
        for name in "abcdef":
            standing = standing.with_party(name, [0] * 6)
        ours = [digit_step("f", 9), digit_step("g", 9), digit_step("h", 9), WAIT, WAIT, WAIT]
        theirs = [Deed.change([("i", [(fact(0, "i"), 1)])])] + [WAIT] * 5
        goal = fact(9, "f") & fact(9, "g") & fact(9, "h")
        found = plan(standing, ours, theirs, goal, costs=[99, 1, 7, 1, 1, 1], limit=2000)
        self.assertEqual((found.cost, len(found.steps)), (9 * 107, 2000))
        self.assertIs(is_plan(standing, ours, theirs, goal, found.steps, costs=[99, 1, 7, 1, 1, 1]), True)
        self.assertIs(is_plan(standing, ours, theirs, goal, found.steps, costs=[99, 1, 8, 1, 1, 1]), False)
        found = plan(standing, ours, theirs, goal, keep=~fact(5), limit=2000)
        self.assertIs(is_no_plan(standing, ours, theirs, goal, found.bad, keep=~fact(5)), True)
        self.assertLess(time.time() - start, 30)


class TablesTest(Fails, unittest.TestCase):
    def test_plans(self):
        ours, theirs = [UP, Deed.change([("f", [(fact(0), 4)])])], [WAIT]
        found = plan(table(), ours, theirs, fact(4))
        self.assertIs(is_plan(table(), ours, theirs, fact(4), found.steps), True)
        self.assertIs(is_plan(table(), ours, theirs, fact(4), [list(row) for row in found.steps[::-1]]), True)
        states = {state.digits("f")[0]: state for state, _, _ in found.steps}
        # Other right tables: a higher price, more triples of one state, states that cannot be reached.
        steps = [(states[0], 1, 9), (states[4], None, 8), (states[0], 1, 20)]
        self.assertIs(is_plan(table(), ours, theirs, fact(4), steps), True)
        far = table().without_fact("g").with_fact("g", [7, 7]).without_fact("f").with_fact("f", [4, 4])
        self.assertIs(is_plan(table(), ours, theirs, fact(4), steps + [(far, None, 0)]), True)
        for row in ((states[4], None, -1), (states[1], None, 0), (states[0], 2, 50), (states[0], -1, 50),
                    (states[0], 1, 8), (states[3], 0, 8), (states[2], 0, 50)):
            self.assertIs(is_plan(table(), ours, theirs, fact(4), steps + [row]), False)
        self.assertIs(is_plan(table(), ours, theirs, fact(4), [(states[4], None, 0)]), False)
        self.assertIs(is_plan(table(), ours, theirs, fact(4), []), False)
        # Where they ask for a triple that follows, one that fits is enough.
        steps = [(states[0], 1, 3), (states[4], None, 9), (states[4], None, 2)]
        self.assertIs(is_plan(table(), ours, theirs, fact(4), steps), True)

    def test_random_tables(self):
        chance = random.Random(61)
        count = [[0, 0], [0, 0]]
        for _ in range(220):
            standing, ours, theirs = random_game(chance)
            goal, keep = random_facts(chance), chance.choice([None, None, random_facts(chance)])
            costs = [chance.randint(1, 3) for _ in ours]
            found = plan(standing, ours, theirs, goal, keep=keep, costs=costs, limit=2000)
            self.assertIs(is_plan(standing, ours, theirs, goal, found.steps, keep=keep, costs=costs), found.sure)
            self.assertIs(is_no_plan(standing, ours, theirs, goal, found.bad, keep=keep), not found.sure)
            for _ in range(4 if len(found.steps) < 40 else 0):
                if found.steps:
                    steps = spoilt(chance, found.steps, len(ours), False)
                    expected = fits_plan(standing, ours, theirs, goal, steps, keep, costs)
                    self.assertIs(is_plan(standing, ours, theirs, goal, steps, keep=keep, costs=costs), expected)
                    count[0][expected] += 1
                if found.bad and len(found.bad) < 60:
                    bad = spoilt(chance, found.bad, len(ours), True)
                    expected = fits_no_plan(standing, ours, theirs, goal, bad, keep)
                    self.assertIs(is_no_plan(standing, ours, theirs, goal, bad, keep=keep), expected)
                    count[1][expected] += 1
        self.assertGreater(min(count[0] + count[1]), 20)


if __name__ == "__main__":
    unittest.main()
