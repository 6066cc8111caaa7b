"""Points 18 and 57: quiet states, and plays that settle."""

import random
import time
import unittest

from manysights.claims import Claim
from manysights.deeds import Deed
from manysights.doing import after
from manysights.endings import quiet_ends, settles
from manysights.errors import HasCall, TooManyStates, UnknownFact, UnknownParty
from manysights.pieces import pieces
from manysights.plays import moves, reachable
from manysights.standings import Standing
from manysights.views import View
from tests.helpers import Fails, digit_step, random_deed, random_plain, random_standing

F, ZERO = View.value("f"), Claim.fact("f", 0)
NEVER, CALL = Deed.call(~Claim.always()), Deed.call(ZERO)


def table():
    """Return a standing of one piece."""
    return Standing(3).with_fact("f", [0, 1, 1]).with_party("a", [0, 0, 1]).with_party("b", [0, 1, 1])


def is_quiet(state, menu):
    """Tell whether a state is quiet, by the words of the point."""
    return all(other == state for _, other in moves(state, menu))


def ways(states, menu):
    """Return for each pair of states whether moves lead from one to the other."""
    size = len(states)
    rows = [[states.index(other) for _, other in moves(state, menu)] for state in states]
    near = [[j in rows[i] for j in range(size)] for i in range(size)]
    for k in range(size):
        for i in range(size):
            if near[i][k]:
                near[i] = [one or two for one, two in zip(near[i], near[k])]
    return near


def can_stay(members, states, menu):
    """Tell whether for each deed a state of the members has a move by it to a member."""
    inside = {index for number in members for index, other in moves(states[number], menu)
              if states.index(other) in members}
    return inside == set(range(len(menu)))


class QuietTest(Fails, unittest.TestCase):
    def test_examples(self):
        self.assertEqual(quiet_ends(table(), [Deed.row([])]), (table(),))
        self.assertEqual(quiet_ends(table(), [Deed.announce(F)]), pieces(after(table(), Deed.announce(F))))
        # A state in which no deed can be done is quiet.
        self.assertEqual(quiet_ends(table(), [NEVER]), (table(),))
        self.assertEqual(quiet_ends(table(), [CALL]), (table().only([0]),))
        self.assertEqual(quiet_ends(table(), [digit_step("f", 1)]), ())

    def test_against_the_words(self):
        chance = random.Random(57)
        sizes = {}
        for _ in range(150):
            standing = random_standing(chance, most=5)
            menu = [random_deed(chance, 1) for _ in range(chance.randint(1, 3))]
            menu += chance.choice([[], [], [digit_step("f", 1)]])
            states = reachable(standing, menu, limit=2000)
            expected = tuple(state for state in states if is_quiet(state, menu))
            self.assertEqual(quiet_ends(standing, menu, limit=2000), expected)
            sizes[min(len(expected), 3)] = True
        self.assertEqual(len(sizes), 4)

    def test_order_of_deeds_does_not_matter(self):
        chance = random.Random(58)
        for _ in range(80):
            standing = random_standing(chance, most=6)
            menu = [Deed.announce(random_plain(chance, 2)), Deed.show([("a", random_plain(chance, 2))]),
                    Deed.show([(name, random_plain(chance, 2)) for name in "bc"])][:chance.randint(1, 3)]
            end = standing
            for _ in range(20):
                for deed in menu:
                    end = after(end, deed)
            found = quiet_ends(standing, menu, limit=2000)
            self.assertEqual(sorted(state.key for state in found), sorted(state.key for state in pieces(end)))
            self.assertIs(settles(standing, menu, limit=2000).settles, True)

    def test_names_and_limits(self):
        wrong = [CALL, Deed.announce(View.value("x")), Deed.forget("q", F)]
        for call in (quiet_ends, settles):
            self.assert_error(UnknownFact, {"name": "x"}, call, table(), wrong, limit=1)
            self.assert_error(UnknownParty, {"name": "q"}, call, table(), wrong[::-1], limit=1)
            menu = [digit_step("f", 9)]
            self.assert_error(TooManyStates, {"limit": 9}, call, table(), menu, limit=9)
            call(table(), menu, limit=10)
        self.assert_error(HasCall, {"index": 1}, settles, table(), [digit_step("f", 9), CALL, NEVER], limit=9)
        deep = Deed.row([Deed.row([]), Deed.row([Deed.row([CALL])])])
        self.assert_error(HasCall, {"index": 0}, settles, table(), [deep])
        big = Standing(1).with_fact("f", [0]).with_fact("g", [0]).with_fact("h", [0]).with_party("a", [0])
        menu = [digit_step("f", 9), digit_step("g", 9), digit_step("h", 5)]
        for call in (quiet_ends, settles):
            self.assert_error(TooManyStates, {"limit": 500}, call, big, menu)


class SettlesTest(Fails, unittest.TestCase):
    def check(self, standing, menu):
        """Check the words of the point; return whether all fair plays settle."""
        found = settles(standing, menu, limit=2000)
        states = list(reachable(standing, menu, limit=2000))
        near = ways(states, menu)
        groups = [[j for j in range(len(states)) if j == i or (near[i][j] and near[j][i])] for i in range(len(states))]
        stays = any(can_stay(members, states, menu) and not any(is_quiet(states[j], menu) for j in members)
                    for members in groups)
        self.assertIs(found.settles, not stays)
        if found.settles:
            self.assertEqual(found.restless, ())
        else:
            members = [states.index(state) for state in found.restless]
            self.assertEqual(members, sorted(set(members)))
            self.assertFalse(any(is_quiet(state, menu) for state in found.restless))
            self.assertTrue(can_stay(members, states, menu))
            self.assertTrue(all(near[i][j] for i in members for j in members if i != j))
            self.assert_tuples(found.restless)
        return found.settles

    def test_examples(self):
        self.assertTrue(self.check(table(), [Deed.row([])]))
        self.assertTrue(self.check(table(), [Deed.announce(F), Deed.row([])]))
        self.assertFalse(self.check(table(), [digit_step("f", 1)]))
        # A play that is not fair need not settle, but a fair one does.
        top = Claim.fact("f", 3)
        flip = Deed.change([("f", [(ZERO, 1), (Claim.fact("f", 1), 0)])])
        stop = Deed.change([("f", [(Claim.always(), 3)])])
        self.assertTrue(self.check(table(), [flip, stop]))
        self.assertFalse(self.check(table(), [flip, Deed.change([("f", [(Claim.fact("f", 5), 3)])])]))
        self.assertTrue(self.check(table(), [Deed.change([("f", [(top, 3), (Claim.fact("f", 2), 3)])])]))

    def test_random(self):
        chance = random.Random(59)
        count = [0, 0]
        for _ in range(120):
            standing = random_standing(chance, most=3)
            menu = [random_deed(chance, 1, calls=False) for _ in range(chance.randint(1, 2))]
            menu += chance.choice([[], [digit_step("f", 1)], [digit_step("f", 2), digit_step("g", 1)]])
            if len(reachable(standing, menu, limit=2000)) <= 40:
                count[self.check(standing, menu)] += 1
        self.assertGreater(min(count), 20)

    def test_largest(self):
        start = time.time()
        standing = Standing(20)
        for name in "fgh":
            standing = standing.with_fact(name, [0] * 20)
        for name in "abcdef":
            standing = standing.with_party(name, [deal // 4 for deal in range(20)])
        menu = [digit_step("f", 9), digit_step("g", 9), digit_step("h", 9), Deed.row([])]
        found = settles(standing.only([0, 1, 2, 3, 4]), menu, limit=2000)
        self.assertEqual((found.settles, len(found.restless)), (False, 1000))
        self.assertEqual(quiet_ends(standing.only([0, 1, 2]), menu, limit=2000), ())
        self.assertLess(time.time() - start, 20)


if __name__ == "__main__":
    unittest.main()
