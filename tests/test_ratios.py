"""Points 6 and 75: ratios."""

import random
import unittest
from fractions import Fraction

from manysights.ratios import added, compared, divided, multiplied, ratio
from tests.helpers import Fails


def pair_of(number):
    """Return the ratio of a fraction."""
    return (number.numerator, number.denominator)


class RatiosTest(Fails, unittest.TestCase):
    def test_ratio(self):
        for top, bottom, found in (
            (6, 4, (3, 2)), (-6, 4, (-3, 2)), (6, -4, (-3, 2)), (-6, -4, (3, 2)), (0, 7, (0, 1)), (0, -7, (0, 1)),
            (5, 5, (1, 1)), (5, -5, (-1, 1)), (1, 1, (1, 1)), (8, 1, (8, 1)), (8, -1, (-8, 1)), (3, 6, (1, 2)),
        ):
            self.assertEqual(ratio(top, bottom), found)

    def test_examples(self):
        self.assertEqual(added((1, 2), (1, 3)), (5, 6))
        self.assertEqual(added((1, 2), (-1, 2)), (0, 1))
        self.assertEqual(multiplied((2, 3), (3, 2)), (1, 1))
        self.assertEqual(multiplied((2, 3), (0, 5)), (0, 1))
        self.assertEqual(divided((2, 3), (-4, 3)), (-1, 2))
        self.assertEqual(divided((0, 3), (-4, 3)), (0, 1))
        self.assertEqual([compared((1, 3), (1, 2)), compared((1, 2), (2, 4)), compared((1, 2), (1, 3))], [-1, 0, 1])
        self.assertEqual([compared((-1, 2), (1, 9)), compared((0, 9), (0, 1)), compared((-1, 3), (-1, 2))], [-1, 0, 1])

    def test_against_fractions(self):
        chance = random.Random(75)
        for most in (6, 10**30):
            for _ in range(500):
                one = [chance.randint(-most, most), chance.randint(1, most)]
                two = (chance.randint(-most, most), chance.randint(1, most))
                left, right = Fraction(*one), Fraction(*two)
                self.assertEqual(added(one, two), pair_of(left + right))
                self.assertEqual(multiplied(one, two), pair_of(left * right))
                self.assertEqual(compared(one, two), (left > right) - (left < right))
                self.assertEqual(compared(one, (one[0] * 3, one[1] * 3)), 0)
                if two[0]:
                    self.assertEqual(divided(one, two), pair_of(left / right))
                    self.assertEqual(ratio(one[0], two[0]), pair_of(Fraction(one[0], two[0])))
                self.assert_tuples(added(one, list(two)))


if __name__ == "__main__":
    unittest.main()
