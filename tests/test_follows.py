"""Point 34: what can be concluded in every standing."""

import itertools
import random
import time
import unittest

from manysights.answers import claim_names, view_names
from manysights.claims import Claim
from manysights.errors import NotFactClaim, NotPlain
from manysights.follows import Following, follows
from manysights.meanings import holds
from manysights.orders import always_tells, is_derivation
from manysights.views import View
from tests.helpers import NOT_PLAIN, Fails, random_plain, random_standing

A, B, C = View.eyes("a"), View.eyes("b"), View.eyes("c")
F, G, H = Claim.fact("f", 1), Claim.fact("g", 1), Claim.fact("h", 1)
NO_FACT_CLAIMS = [Claim.knows("a", F), Claim.weighs("a", A, []), ~Claim.knows("a", F), F & Claim.knows("a", F),
                  F | (G & ~Claim.likely("a", F, 1, 2))]


def random_fact_claim(chance, depth, facts="fg"):
    """Return a random fact claim."""
    kind = chance.randint(0, 4) if depth else chance.randint(0, 1)
    if kind < 2:
        claim = Claim.fact(chance.choice(facts), chance.randint(0, 2))
        return Claim.always() if chance.random() < 0.1 else claim
    if kind == 2:
        return ~random_fact_claim(chance, depth - 1, facts)
    members = [random_fact_claim(chance, depth - 1, facts) for _ in range(chance.randint(0, 3))]
    return Claim.all_of(members) if kind == 3 else Claim.any_of(members)


def satisfied(parts, digits):
    """Tell whether digits satisfy a fact claim, given by its parts."""
    if parts[0] == "always":
        return True
    if parts[0] == "fact":
        return digits[parts[1]] == parts[2]
    if parts[0] == "not":
        return not satisfied(parts[1], digits)
    inner = [satisfied(member, digits) for member in parts[1]]
    return all(inner) if parts[0] == "and" else any(inner)


def cases_of(facts):
    """Return all digits of the facts."""
    return [dict(zip(facts, row)) for row in itertools.product(range(10), repeat=len(facts))]


def must_follow(premises, conclusion, used):
    """Tell whether the conclusion always follows, by the last sentences of point 34."""
    claims = [claim for _, claim in premises] + [conclusion[1]]
    facts = sorted({name for claim in claims for name in claim_names(claim)[1]})
    cases = cases_of(facts)
    if not any(all(satisfied(claim.parts, case) for _, claim in premises) for case in cases):
        return True
    return all(satisfied(conclusion[1].parts, case) for case in cases
               if all(satisfied(premises[index][1].parts, case) for index in used))


class Concludes(Fails):
    """A part of test cases: what a Following must be."""

    def assert_following(self, found, premises, conclusion, used):
        """Hold all but the derivations against the words of the document."""
        self.assertIsInstance(found, Following)
        self.assertIs(found.follows, must_follow(premises, conclusion, used))
        self.assert_tuples(found.used)
        if found.follows:
            self.assertIsNone(found.standing)
            self.assertIsNone(found.deal)
            self.assertEqual([index for index, _ in found.used], used)
        else:
            self.assertEqual(found.used, ())
            self.assertIn(found.deal, found.standing)
            self.assert_well_formed(found.standing)
            for view, claim in premises:
                self.assertTrue(holds(found.standing, Claim.known(view, claim), found.deal))
            self.assertFalse(holds(found.standing, Claim.known(*conclusion), found.deal))
            for view, claim in [*premises, conclusion]:
                self.assertLessEqual(set(view_names(view)[0]), set(found.standing.parties))
                self.assertLessEqual(set(claim_names(claim)[1]), set(found.standing.facts))


class FollowsTest(Concludes, unittest.TestCase):
    def check(self, premises, conclusion):
        """Hold an answer against the words of the document."""
        found = follows(premises, conclusion)
        used = [index for index, (view, _) in enumerate(premises) if always_tells(conclusion[0], view).tells]
        self.assert_following(found, premises, conclusion, used)
        for index, derivation in found.used:
            self.assertTrue(is_derivation(conclusion[0], premises[index][0], derivation))
        return found

    def test_simple(self):
        self.assertTrue(self.check([(A, F)], (A & B, F)).follows)
        self.assertTrue(self.check([[A, F], [B, G]], [A & B, F & G]).follows)
        self.assertTrue(self.check(((A | B, F),), (A, F)).follows)
        self.assertTrue(self.check([(A, F | G), (A, ~F)], (A, G)).follows)
        self.assertFalse(self.check([(A, F)], (B, F)).follows)
        self.assertFalse(self.check([(A, F)], (A | B, F)).follows)
        self.assertFalse(self.check([(A & B, F)], (A, F)).follows)
        self.assertFalse(self.check([(A, F), (B, ~F | G)], (A, G)).follows)
        self.assertTrue(self.check([(A, Claim.fact("f", 2))], (A, ~F)).follows)
        self.assertFalse(self.check([(A, ~F)], (A, Claim.fact("f", 2))).follows)

    def test_ten_digits(self):
        digits = [Claim.fact("f", digit) for digit in range(10)]
        self.assertTrue(self.check([(A, ~claim) for claim in digits[:2]], (A, Claim.any_of(digits[2:]))).follows)
        self.assertFalse(self.check([(A, Claim.any_of(digits[:9]))], (A, Claim.any_of(digits[:8]))).follows)
        found = self.check([(A, Claim.all_of([~claim for claim in digits[:9]]))], (B, Claim.fact("f", 9)))
        self.assertFalse(found.follows)
        self.assertEqual(found.standing.digit("f", found.deal), 9)

    def test_no_premises(self):
        self.assertTrue(self.check([], (A, Claim.always())).follows)
        self.assertTrue(self.check((), (A, F | ~F)).follows)
        self.assertFalse(self.check([], (A, F)).follows)
        self.assertFalse(self.check([], (A & B, ~Claim.always())).follows)

    def test_premises_that_contradict(self):
        found = self.check([(B, F), (A | B, ~F), (A, G)], (A, H))
        self.assertTrue(found.follows)
        self.assertEqual([index for index, _ in found.used], [1, 2])
        self.assertTrue(self.check([(C, ~Claim.always())], (A, F)).follows)
        self.assertTrue(self.check([(B, F & G), (C, F & ~G)], (A, H)).follows)

    def test_random(self):
        chance = random.Random(26)
        told = 0
        for index in range(250):
            facts = "fg" if index % 10 else "fgh"
            premises = [(random_plain(chance, chance.randint(1, 4)), random_fact_claim(chance, 2, facts))
                        for _ in range(chance.randint(0, 4))]
            conclusion = (random_plain(chance, chance.randint(1, 5)), random_fact_claim(chance, 2, facts))
            told += self.check(premises, conclusion).follows
        self.assertGreater(told, 20)
        self.assertLess(told, 240)

    def test_true_in_random_standings(self):
        chance = random.Random(27)
        for _ in range(60):
            premises = [(random_plain(chance, chance.randint(1, 3)), random_fact_claim(chance, 1)) for _ in range(3)]
            conclusion = (random_plain(chance, chance.randint(1, 4)), random_fact_claim(chance, 2))
            if not follows(premises, conclusion).follows:
                continue
            for _ in range(20):
                standing = random_standing(chance)
                for deal in standing:
                    if all(holds(standing, Claim.known(*premise), deal) for premise in premises):
                        self.assertTrue(holds(standing, Claim.known(*conclusion), deal))

    def test_errors(self):
        for bad in NOT_PLAIN:
            self.assert_error(NotPlain, {}, follows, [(A, F), (bad, NO_FACT_CLAIMS[0])], (A, F))
            self.assert_error(NotPlain, {}, follows, [(A, NO_FACT_CLAIMS[0])], (bad, F))
            self.assert_error(NotPlain, {}, follows, [], (bad, NO_FACT_CLAIMS[1]))
        for bad in NO_FACT_CLAIMS:
            self.assert_error(NotFactClaim, {}, follows, [(A, F), (A, bad)], (A, F))
            self.assert_error(NotFactClaim, {}, follows, [(A, ~Claim.always())], (A, bad))
            self.assert_error(NotFactClaim, {}, follows, (), (A, bad))

    def test_arguments_stay(self):
        premises = [[A, F], [B, G]]
        conclusion = [A, G]
        follows(premises, conclusion)
        self.assertEqual((premises, conclusion), ([[A, F], [B, G]], [A, G]))

    def test_largest(self):
        chance = random.Random(28)
        start = time.perf_counter()
        for _ in range(5):
            claims = [Claim.any_of([Claim.fact(name, digit) & ~Claim.fact(other, 9 - digit)
                                    for name in "fgh" for other in "fgh" for digit in range(10)]) for _ in range(5)]
            views = [random_plain(chance, 8, "abcdefgh") for _ in range(5)]
            pairs = list(zip(views, claims))
            follows(pairs[:4], pairs[4])
            follows([(view, Claim.always()) for view in views[:4]], (views[4], claims[0]))
        self.assertLess(time.perf_counter() - start, 10)


if __name__ == "__main__":
    unittest.main()
