"""Points 18 and 81: bargains."""

import random
import unittest

from manysights.bargains import bargain
from manysights.claims import Claim
from manysights.deeds import Deed
from manysights.doing import after
from manysights.errors import NoSpeakers, TakenName, UnknownFact, UnknownParty
from manysights.meanings import holds
from manysights.standings import Standing
from manysights.views import View
from tests.helpers import Fails, random_standing, random_terms

ONE, TWO = Claim.fact("f", 1), Claim.fact("f", 2)


def table(weights=None):
    """Return a standing in which a sees whether f is 1 and b whether it is 2."""
    made = Standing(5).only([1, 2, 4]).with_fact("f", [1, 2, 0])
    return made.with_party("a", [0, 1, 1], weights=weights).with_party("b", [0, 1, 0])


def plain_bargain(standing, offers):
    """Return the end, the rounds and where all agree, by the words of point 81."""
    rounds, start = 0, None
    while start is None or standing != start:
        start, rounds = standing, rounds + 1
        for party, terms in offers:
            standing = after(standing, Deed.announce(View.whether(Claim.gains(party, terms))))
    agreed = [deal for deal in standing if all(holds(standing, Claim.gains(*offer), deal) for offer in offers)]
    return standing, rounds, tuple(agreed)


class BargainsTest(Fails, unittest.TestCase):
    def check(self, standing, offers):
        """Check a bargain against a plain walk and return it."""
        found = bargain(standing, offers)
        self.assertEqual((found.end, found.rounds, found.agreed), plain_bargain(standing, offers))
        self.assert_tuples(found.agreed)
        return found

    def test_agreement(self):
        offers = [("a", [(1, ONE)]), ["b", ((2, Claim.always()), (-3, TWO))]]
        self.assertEqual(self.check(table(), offers).agreed, (1,))
        self.assertEqual(self.check(table(), [("b", [(1, ~TWO)])]).agreed, (1, 4))
        self.assertEqual(self.check(table(), [("b", [])]).agreed, ())
        self.assertEqual(self.check(table(), [("b", [(1, Claim.always())])]).rounds, 1)

    def test_weights_that_differ(self):
        offers = [("a", [(1, ONE), (-1, ~ONE)]), ("b", [(-1, ONE), (1, ~ONE)])]
        apart = Standing(2).with_fact("f", [1, 0]).with_party("a", [0, 0], weights=[2, 1])
        apart = apart.with_party("b", [0, 0], weights=[1, 2])
        self.assertEqual(self.check(apart, offers).agreed, (0, 1))
        same = apart.without_party("b").with_party("b", [0, 0], weights=[2, 1])
        self.assertEqual(self.check(same, offers).agreed, ())

    def test_against_plain_walks(self):
        chance = random.Random(81)
        rounds, agreed = {}, 0
        for _ in range(250):
            standing = random_standing(chance, most=8)
            names = chance.sample("abc", chance.randint(1, 3))
            offers = []
            for name in names:
                terms = random_terms(chance, 1) + [(chance.randint(-2, 3), Claim.fact("f", chance.randint(0, 2)))]
                offers.append((name, terms))
            found = self.check(standing, offers)
            rounds[found.rounds] = True
            agreed += bool(found.agreed)
        self.assertGreater(max(rounds), 2)
        self.assertGreater(agreed, 20)

    def test_no_agreement_with_one_prior(self):
        chance = random.Random(82)
        for _ in range(200):
            standing = random_standing(chance, most=8, parties="", weights=False)
            weights = [chance.randint(1, 4) for _ in standing]
            for name in "abc":
                standing = standing.with_party(name, [chance.randint(0, 3) for _ in standing], weights=weights)
            offers = {name: [] for name in "abc"}
            for digit in (0, 1, 2):
                numbers = [chance.randint(-3, 3) for _ in range(2)]
                numbers.append(-sum(numbers) - chance.randint(0, 1))
                for name, number in zip("abc", numbers):
                    offers[name].append((number, Claim.fact("f", digit)))
            self.assertEqual(self.check(standing, list(offers.items())).agreed, ())

    def test_errors(self):
        fine, bad = ("a", [(1, ONE)]), ("a", [(1, ONE), (2, Claim.fact("x", 1))])
        self.assert_error(NoSpeakers, {}, bargain, table(), [])
        self.assert_error(NoSpeakers, {}, bargain, table(), ())
        self.assert_error(TakenName, {"name": "a"}, bargain, table(), [fine, ("b", []), ("a", []), ("b", [])])
        self.assert_error(TakenName, {"name": "b"}, bargain, table(), [("b", []), fine, ("b", []), fine])
        self.assert_error(UnknownFact, {"name": "x"}, bargain, table(), [fine, bad, ("q", [])])
        self.assert_error(UnknownParty, {"name": "q"}, bargain, table(), [fine, fine, ("q", bad[1]), bad])
        self.assert_error(UnknownParty, {"name": "p"}, bargain, table(), [("a", [(1, Claim.knows("p", ONE))]), bad])


if __name__ == "__main__":
    unittest.main()
