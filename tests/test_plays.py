"""Points 18 and 49 to 51: moves, states that can be reached, and plays."""

import random
import time
import unittest

from manysights.claims import Claim
from manysights.deeds import Deed
from manysights.doing import after
from manysights.errors import (
    BadMove, NotOnePiece, NotPossible, TooManyStates, UnknownDeal, UnknownFact, UnknownParty,
)
from manysights.pieces import piece_of, pieces
from manysights.plays import moves, play_states, reachable
from manysights.standings import Standing
from manysights.views import View
from tests.helpers import (
    Fails, digit_step, plain_moves, plain_play, plain_reachable, random_deed, random_standing,
)

F, ZERO = View.value("f"), Claim.fact("f", 0)
NEVER = Deed.call(~Claim.always())


def table():
    """Return a standing with two pieces."""
    made = Standing(6).only([0, 1, 2, 4, 5]).with_fact("f", [0, 1, 0, 1, 1])
    return made.with_party("a", [0, 0, 1, 2, 2]).with_party("b", [0, 1, 1, 2, 2])


class MovesTest(Fails, unittest.TestCase):
    def test_order(self):
        state = piece_of(table(), 0)
        menu = [Deed.announce(F), NEVER, Deed.call(Claim.fact("f", 1)), Deed.row([])]
        shown = pieces(after(state, menu[0]))
        self.assertEqual(len(shown), 3)
        expected = tuple((0, piece) for piece in shown) + ((2, state.only([1])), (3, state))
        self.assertEqual(moves(state, menu), expected)
        self.assert_tuples(moves(state, menu))
        self.assert_error(NotOnePiece, {}, moves, table(), menu)

    def test_against_the_words(self):
        chance = random.Random(49)
        for _ in range(250):
            standing = random_standing(chance, most=6)
            menu = [random_deed(chance, 1) for _ in range(chance.randint(1, 6))]
            state = chance.choice(pieces(standing))
            self.assertEqual(list(moves(state, menu)), plain_moves(state, menu))
            if len(pieces(standing)) > 1:
                self.assert_error(NotOnePiece, {}, moves, standing, menu)

    def test_names(self):
        menu = [NEVER, Deed.announce(View.value("x")), Deed.forget("q", F)]
        for call in (moves, reachable):
            self.assert_error(UnknownFact, {"name": "x"}, call, table(), menu)
            self.assert_error(UnknownParty, {"name": "q"}, call, table(), menu[::-1])


class ReachableTest(Fails, unittest.TestCase):
    def test_against_the_words(self):
        chance = random.Random(50)
        sizes = []
        for _ in range(150):
            standing = random_standing(chance, most=5)
            deeds = [random_deed(chance, 1) for _ in range(chance.randint(0, 2))]
            menu = deeds + chance.choice([[digit_step("f", 2)], [digit_step("f", 1), digit_step("g", 2)]])
            expected = plain_reachable(standing, menu)
            self.assertEqual(list(reachable(standing, menu, limit=2000)), expected)
            sizes.append(len(expected))
        self.assertGreater(max(sizes), 50)

    def test_limit(self):
        standing = Standing(2).with_fact("f", [0, 0]).with_fact("g", [0, 0]).with_fact("h", [0, 0])
        standing = standing.with_party("a", [0, 0])
        menu = [digit_step(name, 9) for name in "fgh"]
        self.assertEqual(len(reachable(standing, menu[:2], limit=100)), 100)
        self.assert_error(TooManyStates, {"limit": 99}, reachable, standing, menu[:2], limit=99)
        self.assert_error(TooManyStates, {"limit": 500}, reachable, standing, menu)
        self.assertEqual(len(reachable(standing, menu, limit=1000)), 1000)
        # The pieces of the standing are states, too.
        alone = Standing(3)
        self.assertEqual(len(reachable(alone, [Deed.row([])], limit=3)), 3)
        self.assert_error(TooManyStates, {"limit": 2}, reachable, alone, [Deed.row([])], limit=2)

    def test_default_limit(self):
        standing = Standing(1).with_fact("f", [0]).with_fact("g", [0]).with_fact("h", [0]).with_party("a", [0])
        menu = [digit_step("f", 9), digit_step("g", 9), digit_step("h", 4)]
        self.assertEqual(len(reachable(standing, menu)), 500)
        menu[2] = digit_step("h", 5)
        self.assert_error(TooManyStates, {"limit": 500}, reachable, standing, menu)

    def test_largest(self):
        start = time.time()
        size = 60
        standing = Standing(size)
        for name in "fghijk":
            standing = standing.with_fact(name, [ord(name) * deal % 7 for deal in range(size)])
        for index, name in enumerate("abcdef"):
            standing = standing.with_party(name, [deal // (index + 2) for deal in range(size)])
        menu = [digit_step("f", 9), digit_step("g", 9), digit_step("h", 9), Deed.announce(View.value("f")),
                Deed.exchange("i", "j"), Deed.forget("a", View.value("g"))]
        self.assert_error(TooManyStates, {"limit": 2000}, reachable, standing, menu, limit=2000)
        self.assertLess(time.time() - start, 30)


class PlayTest(Fails, unittest.TestCase):
    def test_states(self):
        menu = [Deed.announce(F), Deed.call(ZERO), digit_step("f", 1)]
        found = play_states(table(), menu, 2, (1, 2, 0))
        first = piece_of(table(), 2)
        second = piece_of(after(first, menu[1]), 2)
        third = after(second, menu[2])
        self.assertEqual(found, (first, second, third, piece_of(after(third, menu[0]), 2)))
        self.assert_tuples(found)
        self.assertEqual(play_states(table(), menu, 4, []), (piece_of(table(), 4),))

    def test_errors(self):
        menu = [Deed.announce(F), Deed.call(ZERO), Deed.row([])]
        for row, place in (((0, 3), 1), ((-1, 9), 0), ((1, 0, 10**20), 2), ((1, 3), 1)):
            self.assert_error(BadMove, {"place": place}, play_states, table(), menu, 1, row)
        self.assert_error(NotPossible, {"index": 2}, play_states, table(), menu, 1, [0, 2, 1, 1])
        # Names come before deals, and both before all others.
        self.assert_error(UnknownDeal, {"deal": 3}, play_states, table(), menu, 3, [7])
        wrong = menu + [Deed.announce(View.value("x"))]
        self.assert_error(UnknownFact, {"name": "x"}, play_states, table(), wrong, 3, [7])

    def test_against_the_words(self):
        chance = random.Random(51)
        ended = [0, 0]
        for _ in range(400):
            standing = random_standing(chance, most=5)
            menu = [random_deed(chance, 1) for _ in range(chance.randint(1, 3))]
            deal = chance.choice(standing.deals)
            row = [chance.randrange(len(menu)) for _ in range(chance.randint(0, 5))]
            expected = plain_play(standing, menu, deal, row)
            ended[isinstance(expected, int)] += 1
            if isinstance(expected, int):
                self.assert_error(NotPossible, {"index": expected}, play_states, standing, menu, deal, row)
            else:
                self.assertEqual(list(play_states(standing, menu, deal, row)), expected)
        self.assertGreater(min(ended), 50)


if __name__ == "__main__":
    unittest.main()
