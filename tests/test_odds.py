"""Points 89 and 90: odds told by bounds."""

import random
import time
import unittest
from fractions import Fraction

from manysights.errors import NoWeights
from manysights.odds import greatest_odds, within_bounds
from tests.helpers import Fails


def product_of(bounds, chain):
    """Return the product of the ratios of a chain."""
    found = Fraction(1)
    for index in chain:
        found *= Fraction(bounds[index][2], bounds[index][3])
    return found


def least_products(size, bounds):
    """Return the least product of a chain of bounds from each deal to each other one, or None.

    If a chain back to a deal has a product less than 1, the result is None.
    """
    best = [[Fraction(1) if i == j else None for j in range(size)] for i in range(size)]
    for deal, other, top, bottom in bounds:
        number = Fraction(top, bottom)
        if best[other][deal] is None or number < best[other][deal]:
            best[other][deal] = number
    for k in range(size):
        for i in range(size):
            for j in range(size):
                if best[i][k] is not None and best[k][j] is not None:
                    number = best[i][k] * best[k][j]
                    if best[i][j] is None or number < best[i][j]:
                        best[i][j] = number
    return None if any(best[i][i] < 1 for i in range(size)) else best


def random_bounds(chance):
    """Return a random size and bounds; many of them can be kept."""
    size = chance.randint(1, 5)
    weights = [chance.randint(1, 9) for _ in range(size)]
    bounds = []
    for _ in range(chance.randint(0, 7)):
        deal, other = chance.randrange(size), chance.randrange(size)
        top, bottom = weights[deal] * chance.randint(1, 2), weights[other]
        if chance.random() < 0.2:
            top, bottom = chance.randint(1, 9), chance.randint(1, 9)
        bounds.append([deal, other, top, bottom])
    return size, bounds + chance.sample(bounds, min(len(bounds), 1))


class OddsTest(Fails, unittest.TestCase):
    def check_weights(self, size, bounds, weights):
        """Check that these are weights with which all bounds hold."""
        self.assertEqual(len(weights), size)
        self.assertTrue(all(isinstance(number, int) and number >= 1 for number in weights))
        for deal, other, top, bottom in bounds:
            self.assertLessEqual(weights[deal] * bottom, weights[other] * top)

    def check(self, size, bounds):
        """Check what within_bounds returns against the words of point 89, and return it."""
        found = within_bounds(size, bounds)
        self.assertEqual(len(found), 2)
        weights, chain = found
        self.assert_tuples(found)
        self.assertIs(weights is None, least_products(size, bounds) is None)
        if weights is not None:
            self.assertIsNone(chain)
            self.check_weights(size, bounds, weights)
        else:
            self.assertGreater(len(chain), 0)
            for one, two in zip((chain[-1],) + chain, chain):
                self.assertEqual(bounds[two][1], bounds[one][0])
            self.assertLess(product_of(bounds, chain), 1)
        return found

    def check_odds(self, size, bounds, deal, other):
        """Check what greatest_odds returns against the words of point 90, and return it."""
        best = least_products(size, bounds)[other][deal]
        found = greatest_odds(size, bounds, deal, other)
        self.assert_tuples(found)
        odds, chain, weights = found
        if best is None:
            self.assertEqual(found, (None, None, None))
            return found
        self.assertEqual(odds, (best.numerator, best.denominator))
        self.assertEqual(product_of(bounds, chain), best)
        reached = other
        for index in chain:
            self.assertEqual(bounds[index][1], reached)
            reached = bounds[index][0]
        self.assertEqual(reached, deal)
        if deal == other:
            self.assertEqual(chain, ())
        self.check_weights(size, bounds, weights)
        self.assertEqual(Fraction(weights[deal], weights[other]), best)
        return found

    def test_examples(self):
        self.assertEqual(self.check(3, []), ((1, 1, 1), None))
        self.check(3, [(0, 1, 1, 2), (1, 2, 1, 3)])
        self.assertEqual(self.check(2, [(0, 1, 1, 2), (1, 0, 3, 2)])[1] in ((0, 1), (1, 0)), True)
        self.check(2, [(0, 1, 1, 2), (1, 0, 2, 1)])
        self.assertEqual(self.check(2, [(1, 1, 5, 5), (0, 0, 2, 3)]), (None, (1,)))
        self.check(1, [(0, 0, 99, 99), (0, 0, 99, 98)])
        # A bound that stands there twice, and a stricter one between the same deals.
        self.check(2, ((0, 1, 1, 1), (0, 1, 1, 1), (1, 0, 1, 1)))
        self.check(2, ((0, 1, 1, 1), (0, 1, 98, 99), (1, 0, 1, 1)))

    def test_odds_examples(self):
        bounds = [(0, 1, 4, 2), (1, 2, 3, 1), (0, 2, 7, 1), (2, 2, 9, 1)]
        self.assertEqual(self.check_odds(3, bounds, 0, 2)[:2], ((6, 1), (1, 0)))
        self.assertEqual(self.check_odds(3, bounds, 0, 1)[:2], ((2, 1), (0,)))
        self.assertEqual(self.check_odds(3, bounds, 2, 0), (None, None, None))
        self.assertEqual(self.check_odds(3, bounds, 1, 1)[:2], ((1, 1), ()))
        self.assertEqual(self.check_odds(3, [], 1, 1)[:2], ((1, 1), ()))
        self.assertEqual(self.check_odds(3, [], 1, 0), (None, None, None))
        self.assertEqual(self.check_odds(2, [(0, 1, 6, 4), (0, 1, 3, 2), (0, 1, 5, 1)], 0, 1)[0], (3, 2))
        # Deals that no chain reaches may be as heavy as the bounds to the others ask.
        self.check_odds(4, [(0, 1, 99, 1), (0, 2, 1, 99), (1, 3, 1, 99)], 0, 1)
        for deal in (0, 1):
            self.assert_error(NoWeights, {}, greatest_odds, 2, [(0, 1, 1, 2), (1, 0, 3, 2)], deal, 0)
        self.assert_error(NoWeights, {}, greatest_odds, 3, [(0, 0, 1, 2)], 1, 2)

    def test_against_the_words(self):
        chance = random.Random(89)
        kept, odds = {True: 0, False: 0}, {True: 0, False: 0}
        for _ in range(1500):
            size, bounds = random_bounds(chance)
            weights, _ = self.check(size, bounds)
            kept[weights is not None] += 1
            deal, other = chance.randrange(size), chance.randrange(size)
            if weights is None:
                self.assert_error(NoWeights, {}, greatest_odds, size, bounds, deal, other)
            else:
                odds[self.check_odds(size, bounds, deal, other)[0] is None] += 1
        self.assertGreater(min(kept.values()), 200)
        self.assertGreater(min(odds.values()), 200)

    def test_largest(self):
        start = time.time()
        chance = random.Random(90)
        for _ in range(40):
            weights = [chance.randint(1, 40) for _ in range(12)]
            bounds = []
            for index in range(30):
                deal, other = (index + 1) % 12, index % 12 if index < 12 else chance.randrange(12)
                bounds.append((deal, other, weights[deal] + (index % 7 == 0), weights[other]))
            self.check(12, bounds)
            for deal in range(12):
                self.check_odds(12, bounds, deal, 0)
            self.check(12, bounds + [(0, 11, 1, 99), (11, 0, 98, 1)])
        self.assertLess(time.time() - start, 20)


if __name__ == "__main__":
    unittest.main()
