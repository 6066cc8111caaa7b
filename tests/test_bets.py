"""Point 86: judges of priors, rings and bets."""

import random
import unittest

from manysights.bets import is_prior, is_tempting, is_twisted_ring
from manysights.priors import one_prior
from manysights.standings import Standing
from tests.helpers import Fails
from tests.test_priors import clashing, plain_is_prior, plain_tempts, plain_twist, random_weighed


def agreeing():
    """Return a standing with one prior."""
    made = Standing(6).only([0, 2, 3, 5]).with_party("a", [0, 0, 1, 1], weights=[1, 2, 3, 9])
    return made.with_party("b", [0, 1, 1, 2], weights=[1, 4, 2, 1])


class BetsTest(Fails, unittest.TestCase):
    def test_priors(self):
        # The prior is 1, 2 and 1, 3 for a; b joins the second deal and the third one.
        for prior in ((1, 2, 1, 3), [2, 4, 2, 6], (5, 10, 5, 15)):
            self.assertIs(is_prior(agreeing(), prior), True)
        for prior in ((), (1,), (1, 2, 1), (1, 2, 1, 3, 1), (1, 2, 1, 2), (1, 2, 2, 6), (0, 0, 0, 0), (-1, -2, -1, -3),
                      (2, 1, 1, 3), [0, 2, 1, 3], (10**30, 2, 1, 3)):
            self.assertIs(is_prior(agreeing(), prior), False)
        self.assertIs(is_prior(Standing(2), (7, 10**30)), True)
        self.assertIs(is_prior(Standing(2), (7, 0)), False)

    def test_priors_against_the_words(self):
        chance = random.Random(86)
        count = {True: 0, False: 0}
        for _ in range(300):
            standing = random_weighed(chance, "ab", 4)
            prior = one_prior(standing).prior or tuple(1 for _ in standing)
            for _ in range(4):
                spoilt = list(prior)
                spoilt[chance.randrange(len(spoilt))] += chance.randint(-1, 1)
                found = is_prior(standing, spoilt)
                self.assertIs(found, plain_is_prior(standing, standing.parties, spoilt))
                count[found] += 1
        self.assertGreater(min(count.values()), 100)

    def test_rings(self):
        table = clashing()
        ring = [("a", 3), ["b", 1]]
        self.assertIs(is_twisted_ring(table, 1, ring), True)
        self.assertIs(is_twisted_ring(table, 3, (("a", 1), ("b", 3))), True)
        self.assertIs(is_twisted_ring(table, 1, (("b", 4), ("b", 3), ("a", 1))), True)
        self.assertIs(is_twisted_ring(table, 1, ring + ring), True)
        for start, steps in (
            (3, ring), (2, ring), (7, ring), (-1, ring), (1, ()), (2, ()), (1, ring[:1]), (1, [("a", 3), ("a", 1)]),
            (1, [("b", 3), ("b", 4), ("b", 1)]), (1, ring + [("a", 3), ("b", 1), ("b", 3)]),
            (1, [("a", 3), ("a", 3), ("b", 1)]), (1, [("a", 1), ("a", 3), ("b", 1)]), (1, [("c", 3), ("b", 1)]),
            (1, [("a", 4), ("b", 1)]), (1, [("q", 3), ("b", 1)]), (1, [("a", 3), ("q", 1)]), (1, [("a", 2), ("b", 1)]),
            (1, [("a", 3), ("b",)]), (1, [("a", 3), ("b", 1, 1)]), (1, [("a", 3), ()]), (1, [("a", 3), ("", 1)]),
            (1, [("a", 10**30), ("b", 1)]), (1, [("a", -3), ("b", 1)]), (1, ring + [("c", 1)]),
        ):
            self.assertIs(is_twisted_ring(table, start, steps), False, (start, steps))
        # One way forth and another one back cancel out.
        self.assertIs(is_twisted_ring(table, 1, ring + [("b", 3), ("a", 1)]), False)

    def test_rings_against_the_words(self):
        chance = random.Random(87)
        count = {True: 0, False: 0}
        for _ in range(2000):
            standing = random_weighed(chance, "ab", 4)
            start = chance.choice(standing.deals)
            steps = [(chance.choice("ab"), chance.choice(standing.deals)) for _ in range(chance.randint(1, 3))]
            ring = one_prior(standing).ring
            if ring is not None:
                start, steps = ring[0], list(ring[1])
                if chance.random() < 0.7:
                    steps[chance.randrange(len(steps))] = (chance.choice("ab"), chance.choice(standing.deals))
            found = is_twisted_ring(standing, start, steps)
            self.assertIs(found, plain_twist(standing, "ab", start, steps) not in (None, 1))
            count[found] += 1
        self.assertGreater(min(count.values()), 50)

    def test_bets(self):
        table = clashing()
        bet = [("a", (-3, 2, 0)), ["b", [3, -2, 1]], ("c", (0, 0, -1))]
        # What a and b exchange costs a nothing, and b gains at the third deal, but c loses there.
        self.assertIs(is_tempting(table, bet), False)
        bet = (("a", (3, -2, 0)), ["b", [-3, 2, 0]], ("c", (0, 0, 0)))
        self.assertIs(is_tempting(table, bet), True)
        self.assertIs(is_tempting(table, [(name, [0, 0, 0]) for name in "abc"]), False)
        self.assertIs(is_tempting(table, ()), False)
        self.assertIs(is_tempting(Standing(2), ()), False)
        self.assertIs(is_tempting(Standing(2), [("a", (0, 0))]), False)
        for spoilt in (
            bet[:2], bet + (("d", (0, 0, 0)),), bet[::-1], (bet[1], bet[0], bet[2]), bet[:2] + (("q", (0, 0, 0)),),
            bet[:2] + (("c", (0, 0)),), bet[:2] + (("c", (0, 0, 0, 0)),), bet[:2] + (("c",),), bet[:2] + ((),),
            bet[:2] + (("c", (0, 0, 0), 0),), bet[:2] + (("c", (0, 0, 1)),), bet[:2] + (("c", ()),),
            (("a", (-3, 2, 0)), ("b", (3, -2, 0)), bet[2]), (("a", (3, -1, 0)), bet[1], bet[2]),
            (("b", (3, -2, 0)), ("a", (-3, 2, 0)), bet[2]), bet + bet,
        ):
            self.assertIs(is_tempting(table, spoilt), False, spoilt)
        # No party gains although none loses.
        even = Standing(2).with_party("a", [0, 0]).with_party("b", [0, 0])
        self.assertIs(is_tempting(even, [("a", (1, -1)), ("b", (-1, 1))]), False)

    def test_bets_against_the_words(self):
        chance = random.Random(84)
        count = {True: 0, False: 0}
        for _ in range(600):
            standing = random_weighed(chance, "abc", 5)
            bet = one_prior(standing).bet
            if bet is None:
                continue
            for _ in range(6):
                rows = [list(gains) for _, gains in bet]
                place = chance.randrange(len(standing))
                one, two = chance.randrange(3), chance.randrange(3)
                amount = chance.randint(-2, 2)
                rows[one][place] += amount
                rows[two][place] -= amount if chance.random() < 0.9 else 0
                spoilt = list(zip("abc", rows))
                found = is_tempting(standing, spoilt)
                self.assertIs(found, plain_tempts(standing, spoilt))
                count[found] += 1
        self.assertGreater(min(count.values()), 100)


if __name__ == "__main__":
    unittest.main()
