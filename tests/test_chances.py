"""Points 6, 18 and 76: chances, and what terms are worth."""

import random
import time
import unittest
from fractions import Fraction

from manysights.chances import chance, chances, worth
from manysights.claims import Claim
from manysights.errors import UnknownDeal, UnknownFact, UnknownParty
from manysights.meanings import holds
from manysights.standings import Standing
from tests.helpers import Fails, random_claim, random_standing, random_terms

ONE = Claim.fact("f", 1)


def table():
    """Return a standing with gaps, weights and two pieces."""
    made = Standing(8).only([0, 2, 3, 5, 7]).with_fact("f", [0, 1, 1, 0, 1])
    made = made.with_party("a", [0, 0, 0, 1, 1], weights=[1, 2, 3, 5, 5])
    return made.with_party("b", [0, 1, 0, 2, 3], weights=[4, 1, 2, 1, 9])


def plain_worth(standing, party, terms, deal):
    """Return what terms are worth to a party, by a plain sum over its cell."""
    weights = dict(zip(standing.deals, standing.weights(party)))
    cell = [standing.deals[place] for place in standing.sight(party).cell_of(standing.position(deal))]
    top = sum(number * weights[other] for number, claim in terms for other in cell if holds(standing, claim, other))
    found = Fraction(top, sum(weights[other] for other in cell))
    return (found.numerator, found.denominator)


class ChancesTest(Fails, unittest.TestCase):
    def test_examples(self):
        self.assertEqual([chance(table(), "a", ONE, deal) for deal in table()], [(5, 6)] * 3 + [(1, 2)] * 2)
        self.assertEqual(chances(table(), "a", ONE), ((5, 6),) * 3 + ((1, 2),) * 2)
        self.assertEqual(chances(table(), "b", ONE), ((1, 3), (1, 1), (1, 3), (0, 1), (1, 1)))
        self.assertEqual(chance(table(), "a", Claim.always(), 7), (1, 1))
        self.assertEqual(chance(table(), "a", ~Claim.always(), 7), (0, 1))
        self.assertEqual(worth(table(), "a", [], 3), (0, 1))
        self.assertEqual(worth(table(), "a", [[2, ONE], (-3, Claim.always()), (2, ONE)], 3), (1, 3))
        self.assertEqual(worth(table(), "a", [(-6, ONE)], 2), (-5, 1))
        self.assertEqual(worth(table(), "b", [(-6, ~ONE)], 2), (0, 1))

    def test_against_plain_sums(self):
        rand = random.Random(76)
        for _ in range(250):
            standing = random_standing(rand)
            party, terms, claim = rand.choice("abc"), random_terms(rand, 2), random_claim(rand, 2)
            found = chances(standing, party, claim)
            self.assert_tuples(found)
            for place, deal in enumerate(standing):
                self.assertEqual(worth(standing, party, terms, deal), plain_worth(standing, party, terms, deal))
                self.assertEqual(chance(standing, party, claim, deal), found[place])
                self.assertEqual(found[place], plain_worth(standing, party, [(1, claim)], deal))

    def test_errors(self):
        bad = Claim.fact("x", 1) & Claim.knows("q", ONE)
        for call in (chance, lambda standing, party, claim, deal: worth(standing, party, [(1, ONE), (2, claim)], deal)):
            self.assert_error(UnknownParty, {"name": "p"}, call, table(), "p", bad, 1)
            self.assert_error(UnknownParty, {"name": "f"}, call, table(), "f", ONE, 0)
            self.assert_error(UnknownFact, {"name": "x"}, call, table(), "a", bad, 1)
            self.assert_error(UnknownParty, {"name": "q"}, call, table(), "a", Claim.knows("q", bad), 1)
            self.assert_error(UnknownDeal, {"deal": 1}, call, table(), "a", ONE, 1)
        self.assert_error(UnknownDeal, {"deal": 9}, worth, table(), "a", [], 9)
        self.assert_error(UnknownParty, {"name": "p"}, chances, table(), "p", bad)
        self.assert_error(UnknownFact, {"name": "x"}, chances, table(), "a", bad)
        twice = [(1, Claim.fact("y", 1)), (1, bad)]
        self.assert_error(UnknownFact, {"name": "y"}, worth, table(), "a", twice, 1)

    def test_largest(self):
        start = time.time()
        standing = Standing(2000).with_fact("f", [deal * 7 % 10 for deal in range(2000)])
        standing = standing.with_party("a", [deal % 3 for deal in range(2000)], weights=[999] * 1999 + [1])
        terms = [(999 - index, Claim.fact("f", index % 10)) for index in range(290)]
        self.assertEqual(worth(standing, "a", terms, 3), worth(standing, "a", terms, 0))
        self.assertEqual(worth(standing, "a", terms[:9], 1), plain_worth(standing, "a", terms[:9], 1))
        self.assertEqual(len(chances(standing, "a", ONE)), 2000)
        self.assertLess(time.time() - start, 10)


if __name__ == "__main__":
    unittest.main()
