"""Points 18 and 52 to 54: what holds at every moment, tables that show it, and first plays."""

import random
import time
import unittest

from manysights.always import always, first_play, is_always_table
from manysights.claims import Claim
from manysights.deeds import Deed
from manysights.errors import TooManyStates, UnknownDeal, UnknownFact, UnknownParty
from manysights.meanings import holds
from manysights.pieces import pieces
from manysights.plays import moves, reachable
from manysights.standings import Standing
from manysights.views import View
from tests.helpers import (
    Fails, digit_step, plain_play, plain_reachable, random_claim, random_deed, random_standing, rows_up_to,
)

F, ZERO = View.value("f"), Claim.fact("f", 0)
NEVER = Deed.call(~Claim.always())
LONGEST = 4


def counter(size=2):
    """Return a standing in which a fact can be counted up."""
    return Standing(size).with_fact("f", [0] * size).with_fact("g", [0] * size).with_party("a", [0] * size)


def plain_first(standing, menu, claim, deals, wanted):
    """Return the first row and the least of the deals such that the claim holds after it as wanted, or None."""
    known = {}

    def state_after(row, deal):
        """Return the state in which the play of the deal and the row ends, or None."""
        if (row, deal) not in known:
            state = plain_play(standing, menu, deal, ())[0] if not row else state_after(row[:-1], deal)
            if row and state is not None:
                states = plain_play(state, menu, deal, row[-1:])
                state = None if isinstance(states, int) else states[-1]
            known[(row, deal)] = state
        return known[(row, deal)]

    for row in rows_up_to(len(menu), LONGEST):
        for deal in deals:
            state = state_after(row, deal)
            if state is not None and holds(state, claim, deal) is wanted:
                return row, deal
    return None


def plain_table(standing, menu, claim, table):
    """Tell whether a table of states shows that the claim holds, by the words of point 53."""
    if not all(piece in table for piece in pieces(standing)):
        return False
    for state in table:
        if len(pieces(state)) != 1 or not all(holds(state, claim, deal) for deal in state):
            return False
        if not all(other in table for _, other in moves(state, menu)):
            return False
    return True


class AlwaysTest(Fails, unittest.TestCase):
    def test_sure(self):
        menu = [digit_step("f", 3)]
        found = always(counter(), menu, ~Claim.fact("f", 4))
        self.assertIs(found.sure, True)
        self.assertEqual(found.table, reachable(counter(), menu))
        self.assertEqual(len(found.table), 4)
        self.assertEqual((found.deal, found.steps), (None, None))

    def test_not_sure(self):
        menu = [digit_step("g", 1), digit_step("f", 3)]
        found = always(counter(), menu, ~Claim.fact("f", 3))
        self.assertIs(found.sure, False)
        self.assertEqual((found.table, found.deal, found.steps), ((), 0, (1, 1, 1)))
        # It need not hold at the start.
        found = always(counter(), menu, ~ZERO)
        self.assertEqual((found.sure, found.table, found.deal, found.steps), (False, (), 0, ()))
        # The least deal for the first row, whichever piece it is in.
        standing = Standing(4).with_fact("f", [2, 0, 1, 0]).with_party("a", [0, 1, 1, 0])
        found = always(standing, [digit_step("f", 3)], ~Claim.fact("f", 2))
        self.assertEqual((found.deal, found.steps), (0, ()))
        found = always(standing.only([1, 2, 3]), [Deed.call(ZERO), digit_step("f", 3)], ~Claim.fact("f", 2))
        self.assertEqual((found.deal, found.steps), (2, (1,)))

    def test_first_row_of_several_states(self):
        # The same row leads to states in several pieces; a later piece may go on by a lesser index.
        standing = Standing(2).with_fact("f", [0, 1]).with_party("a", [0, 1])
        up = Deed.change([("f", [(Claim.fact("f", 1), 5), (Claim.fact("f", 0), 2)])])
        other = Deed.change([("f", [(Claim.fact("f", 0), 5)])])
        found = always(standing, [up, other], ~Claim.fact("f", 5))
        self.assertEqual((found.deal, found.steps), (1, (0,)))
        found = always(standing, [other, up], ~Claim.fact("f", 5))
        self.assertEqual((found.deal, found.steps), (0, (0,)))

    def test_against_a_walk(self):
        chance = random.Random(52)
        count = [0, 0, 0]
        for _ in range(250):
            standing = random_standing(chance, most=4)
            menu = [random_deed(chance, 1) for _ in range(chance.randint(1, 2))] + [digit_step("f", 2)]
            claim = random_claim(chance, 2) | chance.choice([Claim.fact("g", 0), ~Claim.fact("f", 1)])
            found = always(standing, menu, claim, limit=2000)
            first = plain_first(standing, menu, claim, standing.deals, False)
            if first is not None:
                self.assertEqual((found.sure, found.steps, found.deal, found.table), (False, *first, ()))
                count[0 if first[0] == () else 1] += 1
            elif found.sure:
                self.assertEqual(list(found.table), plain_reachable(standing, menu))
                self.assertEqual((found.deal, found.steps), (None, None))
                count[2] += 1
            else:
                self.assertGreater(len(found.steps), LONGEST)
        self.assertGreater(min(count), 15)

    def test_limit(self):
        menu = [digit_step("f", 9), digit_step("g", 9)]
        self.assertIs(always(counter(), menu, Claim.always(), limit=100).sure, True)
        self.assert_error(TooManyStates, {"limit": 99}, always, counter(), menu, Claim.always(), limit=99)
        self.assert_error(TooManyStates, {"limit": 99}, always, counter(), menu, ~ZERO, limit=99)
        self.assert_error(TooManyStates, {"limit": 99}, first_play, counter(), menu, ZERO, 0, limit=99)
        five, six = (menu + [digit_step("h", top)] for top in (4, 5))
        standing = counter().with_fact("h", [0, 0])
        self.assertIs(always(standing, five, Claim.always()).sure, True)
        self.assertEqual(first_play(standing, five, ZERO, 0), ())
        self.assert_error(TooManyStates, {"limit": 500}, always, standing, six, Claim.always())
        self.assert_error(TooManyStates, {"limit": 500}, first_play, standing, six, ZERO, 0)

    def test_names(self):
        menu = [NEVER, Deed.announce(View.value("x"))]
        wrong = Claim.knows("q", Claim.fact("y", 1))
        for call, rest in ((always, ()), (is_always_table, ([],)), (first_play, (99,))):
            self.assert_error(UnknownFact, {"name": "x"}, call, counter(), menu, wrong, *rest)
            self.assert_error(UnknownParty, {"name": "q"}, call, counter(), [NEVER], wrong, *rest)
        self.assert_error(UnknownDeal, {"deal": 2}, first_play, counter(), [digit_step("f", 9)], ZERO, 2, limit=1)

    def test_largest(self):
        start = time.time()
        standing = Standing(30)
        for name in "fghijk":
            standing = standing.with_fact(name, [0] * 30)
        for name in "abcdef":
            standing = standing.with_party(name, [0] * 30)
        menu = [digit_step("f", 9), digit_step("g", 9), digit_step("h", 9), digit_step("i", 1)]
        found = always(standing, menu, Claim.fact("f", 9) | ~Claim.fact("g", 9) | ~Claim.fact("h", 9), limit=2000)
        self.assertEqual((found.deal, found.steps), (0, (1,) * 9 + (2,) * 9))
        self.assertIs(always(standing, menu, ~Claim.fact("i", 2), limit=2000).sure, True)
        self.assertLess(time.time() - start, 20)


class TableTest(Fails, unittest.TestCase):
    def test_right_tables(self):
        menu, claim = [digit_step("f", 3), Deed.announce(F)], ~Claim.fact("f", 4)
        table = reachable(counter(), menu)
        self.assertIs(is_always_table(counter(), menu, claim, table), True)
        self.assertIs(is_always_table(counter(), menu, claim, list(table[::-1]) + [table[1]]), True)
        # More states than needed, which are closed under moves themselves.
        more = reachable(counter().without_fact("g").with_fact("g", [7, 7]), menu)
        self.assertIs(is_always_table(counter(), menu, claim, table + more), True)
        self.assertIs(is_always_table(counter(), menu, claim, table + more[:1]), False)

    def test_wrong_tables(self):
        menu, claim = [digit_step("f", 3)], ~Claim.fact("f", 4)
        table = reachable(counter(), menu)
        for place in range(len(table)):
            self.assertIs(is_always_table(counter(), menu, claim, table[:place] + table[place + 1:]), False)
        self.assertIs(is_always_table(counter(), menu, claim, []), False)
        bad = [counter().without_fact("f").with_fact("f", [4, 0]), counter().without_party("a"),
               counter().without_fact("f"), counter().without_party("a").with_party("a", [0, 1])]
        for state in bad:
            self.assertIs(is_always_table(counter(), menu, claim, table + (state,)), False)
        self.assertIs(is_always_table(counter(), menu, ~Claim.fact("f", 3), table), False)
        # A standing of two pieces is no state, even if all that it leads to stands there.
        apart = counter().without_party("a").with_party("a", [0, 1])
        idle = [counter(), *pieces(apart)]
        self.assertIs(is_always_table(counter(), [Deed.row([])], Claim.always(), idle), True)
        self.assertIs(is_always_table(counter(), [Deed.row([])], Claim.always(), idle + [apart]), False)
        lone = Standing(1).with_party("b", [0])
        self.assertIs(is_always_table(counter(), [Deed.forget("a", F)], Claim.always(), [counter(), lone]), False)
        forget = [Deed.forget("a", F)]
        for lone in (Standing(1).with_party("a", [0]), Standing(1).with_fact("f", [0]).with_party("b", [0])):
            self.assertIs(is_always_table(counter(), forget, Claim.always(), [counter(), lone]), False)
            self.assertIs(is_always_table(counter(), [Deed.row([])], Claim.knows("a", ZERO), [counter(), lone]), False)
        # A standing of another kind may stand there if it has all the names.
        self.assertIs(is_always_table(counter(), [Deed.row([])], Claim.always(), [counter(), lone]), True)

    def test_random(self):
        chance = random.Random(53)
        count = [0, 0]
        for _ in range(200):
            standing = random_standing(chance, most=4)
            menu = [random_deed(chance, 1) for _ in range(2)]
            claim = chance.choice([random_claim(chance, 1), Claim.always()])
            table = list(reachable(standing, menu, limit=2000))
            for _ in range(chance.randint(0, 2)):
                table.insert(chance.randint(0, len(table)), chance.choice(table + [chance.choice(pieces(
                    random_standing(chance, most=3)))]))
            if chance.random() < 0.3:
                table.pop(chance.randrange(len(table)))
            expected = plain_table(standing, menu, claim, table)
            self.assertIs(is_always_table(standing, menu, claim, table), expected)
            count[expected] += 1
        self.assertGreater(min(count), 30)


class FirstPlayTest(Fails, unittest.TestCase):
    def test_examples(self):
        menu = [Deed.call(ZERO), digit_step("f", 2), digit_step("f", 3)]
        standing = Standing(3).with_fact("f", [0, 1, 2]).with_party("a", [0, 0, 0])
        self.assertEqual(first_play(standing, menu, ZERO, 0), ())
        self.assertEqual(first_play(standing, menu, ZERO, 1), (1, 1))
        self.assertEqual(first_play(standing, menu, Claim.knows("a", ZERO), 0), (0,))
        self.assertEqual(first_play(standing, menu, Claim.knows("a", ZERO), 1), (1, 1, 0))
        self.assertEqual(first_play(standing, menu, Claim.fact("f", 3), 1), (1, 2))
        self.assertIsNone(first_play(standing, menu, Claim.fact("f", 4), 1))
        self.assertIsNone(first_play(standing, menu[:1], ZERO, 1))

    def test_against_a_walk(self):
        chance = random.Random(54)
        count = [0, 0, 0]
        for _ in range(250):
            standing = random_standing(chance, most=4)
            menu = [random_deed(chance, 1) for _ in range(chance.randint(1, 2))] + [digit_step("f", 2)]
            claim, deal = random_claim(chance, 2), chance.choice(standing.deals)
            found = first_play(standing, menu, claim, deal, limit=2000)
            first = plain_first(standing, menu, claim, [deal], True)
            if first is not None:
                self.assertEqual(found, first[0])
                count[0 if first[0] == () else 1] += 1
            elif found is None:
                holding = [state for state in reachable(standing, menu, limit=2000)
                           if deal in state and holds(state, claim, deal)]
                self.assertEqual(holding, [])
                count[2] += 1
            else:
                self.assertGreater(len(found), LONGEST)
        self.assertGreater(min(count), 15)


if __name__ == "__main__":
    unittest.main()
