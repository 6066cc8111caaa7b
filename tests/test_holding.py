"""Points 18, 62 and 63: claims that we hold for ever, and tables that show it."""

import random
import time
import unittest

from manysights.claims import Claim
from manysights.deeds import Deed
from manysights.errors import HasCall, TooManyStates, UnknownFact, UnknownParty
from manysights.holding import hold, is_holding, is_no_holding
from manysights.pieces import pieces
from manysights.standings import Standing
from manysights.views import View
from tests.helpers import Fails, digit_step
from tests.turns import INF, Game, PlainTurns, holds_in, random_facts, random_game, spoilt

CALL, WAIT, UP = Deed.call(Claim.always()), Deed.row([]), digit_step("f", 4)


def fact(digit, name="f"):
    """Return the claim that a fact has a digit."""
    return Claim.fact(name, digit)


def to(digit, *cases):
    """Return the deed that gives f a digit in certain cases, or in every case."""
    return Deed.change([("f", [(case, digit) for case in cases or (Claim.always(),)])])


def table(first=0, other=0):
    """Return a standing of two deals in one piece."""
    return Standing(2).with_fact("f", [first, other]).with_fact("g", [0, 0]).with_party("a", [0, 0])


def fits_holding(standing, ours, theirs, claim, steps):
    """Tell whether a table shows that we hold a claim, by the words of point 63."""
    turns = PlainTurns(ours, theirs)
    states = [state for state, _ in steps]
    if not all(piece in states for piece in pieces(standing)):
        return False
    for state, choice in steps:
        if choice is not None and not 0 <= choice < len(ours):
            return False
        later = turns.choices(state)[0 if choice is None else choice + 1]
        if not all(holds_in(one, claim) for one in [state, *later]):
            return False
        if not all(last in states for one in later for last in turns.replies(one)):
            return False
    return True


def fits_no_holding(standing, ours, theirs, claim, bad):
    """Tell whether a table shows that we cannot hold a claim, by the words of point 63."""
    turns = PlainTurns(ours, theirs)

    def has(state, turn, rank):
        return any(one == state and at == turn and less < rank for one, at, less in bad)

    if not any(has(piece, 0, INF) for piece in pieces(standing)):
        return False
    for state, turn, rank in bad:
        if rank < 0:
            return False
        if holds_in(state, claim):
            if turn == 1 and not any(has(one, 0, rank) for one in turns.replies(state)):
                return False
            if turn == 0 and not all(any(has(one, 1, rank) for one in row) for row in turns.choices(state)):
                return False
    return True


class HoldTest(Fails, unittest.TestCase):
    def check(self, standing, ours, theirs, claim):
        """Check the words of point 62 and return the result."""
        found = hold(standing, ours, theirs, claim, limit=2000)
        game = Game(standing, ours, theirs)
        wrong = {number: True for number, state in enumerate(game.states) if not holds_in(state, claim)}
        ranks = game.ranks(wrong)
        steps, bad = [], []
        for number, state in enumerate(game.states):
            if ranks[0][number] == INF:
                kept = [index for index, row in enumerate(game.after[number]) if all(ranks[1][x] == INF for x in row)]
                steps.append((state, kept[0] - 1 if kept[0] else None))
            bad.extend((state, turn, ranks[turn][number]) for turn in (0, 1) if ranks[turn][number] < INF)
        self.assertIs(found.sure, all(ranks[0][number] == INF for number in game.starts))
        self.assertEqual(found.steps, tuple(steps))
        self.assertEqual(found.bad, tuple(bad))
        self.assert_tuples((found.steps, found.bad))
        return found

    def test_examples(self):
        # Waiting is enough.
        found = self.check(table(), [UP], [WAIT], fact(0))
        self.assertEqual((found.sure, found.steps[0][1]), (True, None))
        # We must undo what they do.
        found = self.check(table(), [WAIT, to(0)], [UP], ~fact(2))
        self.assertEqual((found.sure, found.steps[1][1]), (True, 1))
        self.assertEqual(found.bad[0], (found.bad[0][0], 1, 1))
        # The claim fails at once, or after as many turns as they need.
        found = self.check(table(), [UP], [], fact(1))
        self.assertEqual((found.sure, found.bad[0][1:], found.bad[1][1:]), (False, (0, 0), (1, 0)))
        found = self.check(table(), [WAIT], [UP], ~fact(3))
        self.assertEqual([row[1:] for row in found.bad[:4]], [(0, 6), (1, 5), (0, 4), (1, 3)])
        # Each piece counts.
        apart = Standing(2).with_fact("f", [0, 1]).with_fact("g", [0, 0]).with_party("a", [0, 1])
        self.assertIs(self.check(apart, [WAIT], [to(4, fact(1))], ~fact(4)).sure, False)
        self.assertEqual(len(self.check(apart, [WAIT], [to(4, fact(1))], ~fact(4)).steps), 1)

    def test_each_piece_after_our_deed(self):
        # What the first deed shows spoils one of the pieces after it; waiting spoils all.
        shown = Claim.knows("a", fact(1))
        theirs = [Deed.change([("f", [(fact(0, "g") | shown, 4)])])]
        safe = Deed.change([("g", [(Claim.always(), 1)])])
        found = self.check(table(0, 1), [Deed.announce(View.value("f")) >> safe, safe], theirs, ~fact(4))
        self.assertEqual((found.sure, found.steps[0]), (True, (table(0, 1), 1)))

    def test_against_a_search(self):
        chance = random.Random(62)
        count, ranks, choices = [0, 0], {}, {}
        for _ in range(250):
            standing, ours, theirs = random_game(chance)
            claim = random_facts(chance)
            claim = chance.choice([claim, ~claim, claim | random_facts(chance)])
            found = self.check(standing, ours, theirs, claim)
            count[found.sure] += 1
            ranks.update({rank: True for _, _, rank in found.bad})
            choices.update({choice: True for _, choice in found.steps})
            if len(found.steps) + len(found.bad) < 60:
                self.assertIs(is_holding(standing, ours, theirs, claim, found.steps), found.sure)
                self.assertIs(is_no_holding(standing, ours, theirs, claim, found.bad), not found.sure)
        self.assertGreater(min(count), 40)
        self.assertGreater(len(ranks), 4)
        self.assertGreater(len(choices), 2)

    def test_errors(self):
        wrong = [CALL, Deed.announce(View.value("x")), Deed.forget("q", View.value("y"))]
        none = Claim.knows("p", fact(1, "z"))
        for call, rest in ((hold, ()), (is_holding, ([],)), (is_no_holding, ([],))):
            self.assert_error(UnknownFact, {"name": "x"}, call, table(), wrong, wrong[::-1], none, *rest)
            self.assert_error(UnknownParty, {"name": "q"}, call, table(), [CALL], wrong[::-1], none, *rest)
            self.assert_error(UnknownParty, {"name": "p"}, call, table(), [CALL], [CALL], none, *rest)
            self.assert_error(HasCall, {"index": 1}, call, table(), [UP, Deed.row([WAIT, CALL])], [CALL], fact(1), *rest)
        self.assert_error(HasCall, {"index": 0}, hold, table(), [CALL, UP], [], fact(1), limit=1)
        self.assert_error(TooManyStates, {"limit": 9}, hold, table(), [UP], [digit_step("g", 1)], fact(1), limit=9)
        hold(table(), [UP], [digit_step("g", 1)], fact(1), limit=10)
        big = table().with_fact("h", [0, 0])
        menu = [digit_step("f", 9), digit_step("g", 9), digit_step("h", 9)]
        self.assert_error(TooManyStates, {"limit": 500}, hold, big, menu[:1], menu[1:], fact(1))

    def test_largest(self):
        start = time.time()
        standing = Standing(6)
        for name in "fghijk":
            standing = standing.with_fact(name, [0] * 6)
        for name in "abcdef":
            standing = standing.with_party(name, [0] * 6)
        ours = [digit_step("i", 1)] + [WAIT] * 5
        theirs = [digit_step("f", 9), digit_step("g", 9), digit_step("h", 9)] + [WAIT] * 3
        claim = ~(fact(9, "f") & fact(9, "g") & fact(9, "h"))
        found = hold(standing, ours, theirs, claim, limit=2000)
        self.assertEqual((found.sure, len(found.bad), max(row[2] for row in found.bad)), (False, 4000, 54))
        self.assertIs(is_no_holding(standing, ours, theirs, claim, found.bad), True)
        found = hold(standing, ours, theirs, ~fact(2, "i"), limit=2000)
        self.assertEqual((found.sure, len(found.steps)), (True, 2000))
        self.assertIs(is_holding(standing, ours, theirs, ~fact(2, "i"), found.steps), True)
        self.assertLess(time.time() - start, 30)


class TablesTest(Fails, unittest.TestCase):
    def test_holding(self):
        ours, theirs, claim = [WAIT, to(0)], [UP], ~fact(2)
        states = {state.digits("f")[0]: state for state, _ in hold(table(), ours, theirs, claim).steps}
        right = [[states[0], 1], [states[1], 1]]
        self.assertIs(is_holding(table(), ours, theirs, claim, right), True)
        self.assertIs(is_holding(table(), ours, theirs, claim, right[::-1] + right), True)
        far = table().without_fact("g").with_fact("g", [7, 7])
        near = far.without_fact("f").with_fact("f", [1, 1]).without_fact("g").with_fact("g", [7, 7])
        order = Standing(2).with_fact("f", [1, 1]).with_fact("g", [7, 7]).with_party("a", [0, 0])
        far = Standing(2).with_fact("f", [0, 0]).with_fact("g", [7, 7]).with_party("a", [0, 0])
        self.assertIs(is_holding(table(), ours, theirs, claim, right + [(far, 1), (order, 1)]), True)
        self.assertIs(is_holding(table(), ours, theirs, claim, right + [(far, 1)]), False)
        self.assertIs(is_holding(table(), ours, theirs, claim, right + [(near, 1)]), False)
        for row in ((states[1], None), (states[1], 0), (states[1], 2), (states[1], -1), (states[3], None), (table(2, 2), 1)):
            self.assertIs(is_holding(table(), ours, theirs, claim, right + [row]), False)
        self.assertIs(is_holding(table(), ours, theirs, claim, right + [(states[4], 1)]), True)
        self.assertIs(is_holding(table(), ours, theirs, claim, right[1:]), False)
        self.assertIs(is_holding(table(), ours, theirs, claim, []), False)

    def test_no_holding(self):
        ours, theirs, claim = [WAIT], [UP], ~fact(2)
        bad = hold(table(), ours, theirs, claim).bad
        self.assertIs(is_no_holding(table(), ours, theirs, claim, bad), True)
        self.assertIs(is_no_holding(table(), ours, theirs, claim, [(s, t, rank * 3) for s, t, rank in bad]), True)
        self.assertIs(is_no_holding(table(), ours, theirs, claim, [(s, t, rank - 1) for s, t, rank in bad]), False)
        self.assertIs(is_no_holding(table(), ours, theirs, claim, bad[1:]), False)
        self.assertIs(is_no_holding(table(), ours, theirs, claim, []), False)

    def test_random_tables(self):
        chance = random.Random(63)
        count = [[0, 0], [0, 0]]
        for _ in range(250):
            standing, ours, theirs = random_game(chance)
            claim = chance.choice([~random_facts(chance), random_facts(chance) | random_facts(chance)])
            found = hold(standing, ours, theirs, claim, limit=2000)
            for _ in range(4 if len(found.steps) + len(found.bad) < 50 else 0):
                if found.steps:
                    steps = spoilt(chance, found.steps, len(ours), False)
                    expected = fits_holding(standing, ours, theirs, claim, steps)
                    self.assertIs(is_holding(standing, ours, theirs, claim, steps), expected)
                    count[0][expected] += 1
                if found.bad:
                    bad = spoilt(chance, found.bad, len(ours), True)
                    expected = fits_no_holding(standing, ours, theirs, claim, bad)
                    self.assertIs(is_no_holding(standing, ours, theirs, claim, bad), expected)
                    count[1][expected] += 1
        self.assertGreater(min(count[0] + count[1]), 20)


if __name__ == "__main__":
    unittest.main()
