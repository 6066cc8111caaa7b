"""Point 117: what can be concluded in every standing that keeps certain customs."""

import random
import time
import unittest

from manysights.answers import view_names
from manysights.claims import Claim
from manysights.conclusions import follows_under
from manysights.customs import is_derivation_under, keeps_customs, tells_under
from manysights.errors import NotFactClaim, NotPlain
from manysights.follows import follows
from manysights.meanings import holds
from manysights.views import View
from tests.helpers import NOT_PLAIN, random_plain, random_standing
from tests.test_follows import NO_FACT_CLAIMS, Concludes, random_fact_claim

A, B, C, D = (View.eyes(name) for name in "abcd")
F, G, H = Claim.fact("f", 1), Claim.fact("g", 1), Claim.fact("h", 1)


class FollowsUnderTest(Concludes, unittest.TestCase):
    def check(self, customs, premises, conclusion):
        """Hold an answer against the words of the document."""
        found = follows_under(customs, premises, conclusion)
        used = [index for index, (view, _) in enumerate(premises) if tells_under(customs, conclusion[0], view).tells]
        self.assert_following(found, premises, conclusion, used)
        for index, derivation in found.used:
            self.assertTrue(is_derivation_under(customs, conclusion[0], premises[index][0], derivation))
        if not found.follows:
            self.assertTrue(keeps_customs(found.standing, customs))
            for view, party in customs:
                self.assertLessEqual(set(view_names(view)[0]) | {party}, set(found.standing.parties))
        return found.follows

    def test_simple(self):
        self.assertTrue(self.check([(A, "b")], [(B, F)], (A, F)))
        self.assertFalse(self.check([(A, "b")], [(A, F)], (B, F)))
        self.assertFalse(self.check([], [(B, F)], (A, F)))
        self.assertTrue(self.check([[A, "b"], [B, "c"]], [[C, F], [B, ~F | G]], [A, G]))
        self.assertTrue(self.check([(A | B, "c")], [(C, F)], (B, F | G)))
        self.assertTrue(self.check([(D, "c")], [(B, F), (C, ~F)], (A, G)))
        self.assertTrue(self.check([(D, "c")], [], (A, F | ~F)))
        self.assertFalse(self.check([(D, "c")], [], (A, F)))

    def test_random(self):
        chance = random.Random(34)
        told = 0
        for _ in range(200):
            names = "abcd"[:chance.randint(2, 4)]
            customs = [(random_plain(chance, chance.randint(1, 4), names), chance.choice(names))
                       for _ in range(chance.randint(0, 4))]
            premises = [(random_plain(chance, chance.randint(1, 4), names), random_fact_claim(chance, 2))
                        for _ in range(chance.randint(0, 3))]
            conclusion = (random_plain(chance, chance.randint(1, 4), names), random_fact_claim(chance, 2))
            told += self.check(customs, premises, conclusion)
            if not customs:
                self.assertIs(follows(premises, conclusion).follows,
                              follows_under(customs, premises, conclusion).follows)
        self.assertGreater(told, 20)
        self.assertLess(told, 190)

    def test_true_in_random_standings(self):
        chance = random.Random(35)
        for _ in range(40):
            customs = [(random_plain(chance, chance.randint(1, 3)), chance.choice("abc")) for _ in range(2)]
            premises = [(random_plain(chance, chance.randint(1, 3)), random_fact_claim(chance, 1)) for _ in range(3)]
            conclusion = (random_plain(chance, chance.randint(1, 3)), random_fact_claim(chance, 2))
            if not follows_under(customs, premises, conclusion).follows:
                continue
            for _ in range(30):
                standing = random_standing(chance, most=4)
                if keeps_customs(standing, customs):
                    for deal in standing:
                        if all(holds(standing, Claim.known(*premise), deal) for premise in premises):
                            self.assertTrue(holds(standing, Claim.known(*conclusion), deal))

    def test_errors(self):
        fault = NO_FACT_CLAIMS[0]
        for bad in NOT_PLAIN:
            self.assert_error(NotPlain, {}, follows_under, [(A, "b"), (bad, "b")], [(A, fault)], (A, F))
            self.assert_error(NotPlain, {}, follows_under, [], [(A, fault), (bad, F)], (A, F))
            self.assert_error(NotPlain, {}, follows_under, [(A, "b")], [(A, F)], (bad, fault))
        for bad in NO_FACT_CLAIMS:
            self.assert_error(NotFactClaim, {}, follows_under, [(A, "b")], [(A, F), (A, bad)], (A, F))
            self.assert_error(NotFactClaim, {}, follows_under, [], [(A, ~Claim.always())], (A, bad))

    def test_largest(self):
        chance = random.Random(36)
        start = time.perf_counter()
        for _ in range(10):
            customs = [(random_plain(chance, 5, "abcdef"), party) for party in "abcd"]
            premises = [(random_plain(chance, 5, "abcdef"), random_fact_claim(chance, 4, "fgh")) for _ in range(3)]
            conclusion = (random_plain(chance, 5, "abcdef"), random_fact_claim(chance, 4, "fgh"))
            follows_under(customs, premises, conclusion)
        self.assertLess(time.perf_counter() - start, 10)


if __name__ == "__main__":
    unittest.main()
