"""Points 18, 91 and 92: acts, and what it is worth to see more."""

import itertools
import random
import time
import unittest
from fractions import Fraction

from manysights.acts import best_acts, better_acts
from manysights.chains import tells
from manysights.claims import Claim
from manysights.errors import BadAct, BadLength, NoActs, UnknownDeal, UnknownFact, UnknownParty
from manysights.meanings import sight_of
from manysights.pieces import beside
from manysights.standings import Standing
from manysights.views import View
from tests.helpers import Fails, NO_DIGITS, random_standing, random_view

A, F = View.eyes("a"), View.value("f")


def table():
    """Return a standing with gaps in which a sees two cells."""
    made = Standing(7).only([0, 2, 3, 6]).with_fact("f", [1, 0, 1, 1])
    return made.with_party("a", [0, 0, 0, 1], weights=[1, 2, 3, 4]).with_party("b", [0, 1, 0, 1])


def plain_best(standing, party, acts, view, deal):
    """Return how a party does best, by the words of point 91."""
    eyes, seen = standing.sight(party), sight_of(standing, view)
    cell = eyes.cell_of(standing.position(deal))
    weights, total, choices, left = standing.weights(party), 0, [], list(cell)
    while left:
        part = [place for place in cell if seen.alike(place, left[0])]
        left = [place for place in left if place not in part]
        sums = [sum(act[place] * weights[place] for place in part) for act in acts]
        best = [index for index in range(len(acts)) if sums[index] == max(sums)][0]
        total += sums[best]
        choices.append((tuple(standing.deals[place] for place in part), best))
    value = Fraction(total, sum(weights[place] for place in cell))
    return (value.numerator, value.denominator), tuple(choices)


class ActsTest(Fails, unittest.TestCase):
    def test_examples(self):
        acts = [[1, 1, 1, 1], (4, 0, 0, -9), [0, 3, 0, 0]]
        self.assertEqual(best_acts(table(), "a", acts, F, 3), ((5, 3), (((0, 3), 0), ((2,), 2))))
        self.assertEqual(best_acts(table(), "a", acts, A, 0), ((1, 1), (((0, 2, 3), 0),)))
        self.assertEqual(best_acts(table(), "a", acts, A, 6), ((1, 1), (((6,), 0),)))
        self.assertEqual(best_acts(table(), "a", acts[1:], A, 6), ((0, 1), (((6,), 1),)))
        self.assertEqual(best_acts(table(), "a", acts[1:2], A, 6), ((-9, 1), (((6,), 0),)))
        # Among equal acts the least index is chosen; sums count, not single deals.
        self.assertEqual(best_acts(table(), "a", [[0, 3, 0, 0], [6, 0, 0, 0], [0, 0, 2, 0]], A, 2)[1], (((0, 2, 3), 0),))

    def test_against_the_words(self):
        chance = random.Random(91)
        for _ in range(300):
            standing = random_standing(chance)
            acts = [[chance.randint(-3, 3) for _ in standing] for _ in range(chance.randint(1, 6))]
            view, party = random_view(chance, 2), chance.choice("abc")
            for deal in standing:
                found = best_acts(standing, party, acts, view, deal)
                self.assertEqual(found, plain_best(standing, party, acts, view, deal))
                self.assert_tuples(found)

    def test_errors(self):
        fine, short, odd = [1, 2, 3, 4], [1, 2, 3], [1, 2, True, 4]
        self.assert_error(NoActs, {}, best_acts, table(), "a", [], F, 0)
        self.assert_error(NoActs, {}, best_acts, table(), "a", (), F, 0)
        self.assert_error(BadLength, {"count": 3}, best_acts, table(), "a", [fine, odd, short, fine + fine], F, 0)
        self.assert_error(BadLength, {"count": 0}, best_acts, table(), "a", [odd, (), short], F, 0)
        self.assert_error(BadLength, {"count": 8}, best_acts, table(), "a", [fine, fine + odd, short], F, 0)
        self.assert_error(BadAct, {"index": 1}, best_acts, table(), "a", [fine, odd, [None] * 4], F, 0)
        for item in [item for item in NO_DIGITS if not isinstance(item, int) or isinstance(item, bool)]:
            for place in range(4):
                spoilt = fine[:place] + [item] + fine[place + 1:]
                self.assert_error(BadAct, {"index": 2}, best_acts, table(), "a", [fine, fine, spoilt], F, 6)
        # Only the kind counts, not the size.
        self.assertEqual(best_acts(table(), "a", [[10**30] * 4], F, 6)[0], (10**30, 1))
        bad = View.eyes("q") & View.value("x")
        for acts in ([], [short], [odd]):
            self.assert_error(UnknownParty, {"name": "p"}, best_acts, table(), "p", acts, bad, 1)
            self.assert_error(UnknownParty, {"name": "q"}, best_acts, table(), "a", acts, bad, 1)
            self.assert_error(UnknownFact, {"name": "x"}, best_acts, table(), "a", acts, View.value("x") & bad, 1)
            self.assert_error(UnknownDeal, {"deal": 1}, best_acts, table(), "a", acts, F, 1)
        self.assert_error(UnknownParty, {"name": "p"}, better_acts, table(), "p", bad, bad)
        self.assert_error(UnknownParty, {"name": "q"}, better_acts, table(), "a", bad, View.value("y"))
        self.assert_error(UnknownFact, {"name": "y"}, better_acts, table(), "a", F, View.value("y") & bad)

    def check_better(self, standing, party, one, two):
        """Check what better_acts returns against best_acts and the words of point 92; return it."""
        found = better_acts(standing, party, one, two)
        eyes = View.eyes(party)
        told = tells(sight_of(standing, one & eyes), sight_of(standing, two & eyes))
        self.assertIs(found is None, told)
        if found is not None:
            self.assert_tuples(found)
            acts, deal = found
            self.assertTrue(1 <= len(acts) <= 6)
            self.assertTrue(all(-999 <= item <= 999 for act in acts for item in act))
            values = [Fraction(*best_acts(standing, party, acts, view, deal)[0]) for view in (one, two)]
            self.assertLess(values[0], values[1])
        return found

    def test_better_acts(self):
        self.assertIsNone(self.check_better(table(), "a", F, A))
        self.assertIsNone(self.check_better(table(), "a", A, View.whether(Claim.always())))
        self.assertIsNotNone(self.check_better(table(), "a", A, F))
        self.assertIsNotNone(self.check_better(table(), "a", View.eyes("b") | A, View.eyes("b")))
        # The view alone tells less, but not for who sees the rest.
        self.assertIsNone(self.check_better(table(), "b", View.whether(Claim.always()), View.eyes("b")))
        chance = random.Random(92)
        count = {True: 0, False: 0}
        for _ in range(400):
            standing = random_standing(chance)
            found = self.check_better(standing, chance.choice("abc"), random_view(chance, 2), random_view(chance, 2))
            count[found is None] += 1
        self.assertGreater(min(count.values()), 80)

    def test_seeing_more_never_harms(self):
        chance = random.Random(93)
        for _ in range(100):
            standing = random_standing(chance)
            one, two = random_view(chance, 1), random_view(chance, 1)
            if better_acts(standing, "a", one, two) is None:
                acts = [[chance.randint(-5, 5) for _ in standing] for _ in range(chance.randint(1, 6))]
                for deal in standing:
                    values = [Fraction(*best_acts(standing, "a", acts, view, deal)[0]) for view in (one, two)]
                    self.assertGreaterEqual(values[0], values[1])

    def test_largest(self):
        start = time.time()
        standing = Standing(2000).with_fact("f", [deal * 7 % 10 for deal in range(2000)])
        standing = standing.with_party("a", [0] * 2000, weights=[1 + deal % 999 for deal in range(2000)])
        acts = [[(deal * step) % 1999 - 999 for deal in range(2000)] for step in (1, 3, 7, 11, 13, 17)]
        found = best_acts(standing, "a", acts, F, 77)
        self.assertEqual(len(found[1]), 10)
        self.assertEqual(found, plain_best(standing, "a", acts, F, 77))
        # Weights may be greater than those that are passed.
        made = Standing(2).with_fact("f", [0, 1]).with_party("a", [0, 0], weights=[999, 1])
        for name in ("g", "h"):
            more = Standing(2).with_fact(name, [0, 1]).with_party("a", [0, 0], weights=[1, 999])
            made = beside(made, more)
        for one, two in itertools.permutations("fgh", 2):
            self.check_better(made, "a", View.value(one), View.value(two))
        self.assertLess(time.time() - start, 10)


if __name__ == "__main__":
    unittest.main()
