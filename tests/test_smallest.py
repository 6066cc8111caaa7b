"""Point 32: the smallest standing that parts two plain views."""

import itertools
import random
import time
import unittest

from manysights.answers import view_names
from manysights.errors import NotPlain
from manysights.orders import always_tells
from manysights.smallest import smallest_parting
from manysights.standings import Standing
from manysights.views import View
from tests.helpers import NOT_PLAIN, Fails, every_marks, plain_marks, random_plain

A, B, C = View.eyes("a"), View.eyes("b"), View.eyes("c")

# They are alike in all standings with less than four deals.
NARROW = ((A | B) & (A | C), A | (B & (A | C)))


def plain_walk(one, two, most):
    """Return what the document asks for, by looking at each standing in order."""
    names = sorted(set(view_names(one)[0] + view_names(two)[0]))
    for size in range(1, most + 1):
        for choice in itertools.product(every_marks(size), repeat=len(names)):
            rows = dict(zip(names, choice))
            left, right = plain_marks(one.parts, rows), plain_marks(two.parts, rows)
            for pair in itertools.combinations(range(size), 2):
                if left[pair[0]] == left[pair[1]] and right[pair[0]] != right[pair[1]]:
                    return (size, standing_with(rows, size), pair)
    return None


def standing_with(rows, size):
    """Return the standing with these parties and their marks."""
    standing = Standing(size)
    for name, row in rows.items():
        standing = standing.with_party(name, row)
    return standing


class SmallestTest(Fails, unittest.TestCase):
    def check(self, one, two, most):
        """Hold the answer against a plain walk."""
        found = smallest_parting(one, two, most=most)
        self.assertEqual(found, plain_walk(one, two, most))
        if found is not None:
            self.assertIsInstance(found, tuple)
            self.assert_tuples(found[2])
            self.assertEqual(found[1].facts, ())

    def test_simple(self):
        size, standing, pair = smallest_parting(A, B)
        self.assertEqual((size, pair), (2, (0, 1)))
        self.assertEqual(standing, Standing(2).with_party("a", [0, 0]).with_party("b", [0, 1]))
        size, standing, pair = smallest_parting(View.eyes("z") & B, C)
        self.assertEqual(standing.parties, ("b", "c", "z"))
        self.assertEqual(standing.sight("b").marks, (0, 0))
        size, standing, pair = smallest_parting(A | B, A)
        self.assertEqual((size, standing.sight("a").marks, standing.sight("b").marks), (2, (0, 1), (0, 0)))
        self.assertIsNone(smallest_parting(A, A | B))
        self.assertIsNone(smallest_parting(A & B, A, most=1))
        self.assertIsNone(smallest_parting(A, B, most=1))

    def test_most_is_four_by_default(self):
        self.assertEqual(smallest_parting(*NARROW)[0], 4)
        self.assertEqual(smallest_parting(*NARROW), smallest_parting(*NARROW, most=4))
        self.assertIsNone(smallest_parting(*NARROW, most=3))

    def test_against_plain_walk(self):
        chance = random.Random(23)
        for index in range(200):
            names = ("a", "ab", "ba", "abc")[index % 4]
            one, two = (random_plain(chance, chance.randint(1, 5), names) for _ in range(2))
            self.check(one, two, chance.randint(1, 3))
        for index in range(40):
            one, two = (random_plain(chance, chance.randint(2, 6), "ab") for _ in range(2))
            self.check(one, two, 4)

    def test_three_deals(self):
        one, two = A & (B | C), (A & B) | (A & C)
        self.check(one, two, 2)
        self.check(one, two, 3)
        self.assertIsNone(smallest_parting(one, two, most=2))
        self.assertEqual(smallest_parting(one, two)[0], 3)

    def test_four_deals(self):
        one, two = NARROW
        self.assertFalse(always_tells(one, two).tells)
        self.assertIsNone(smallest_parting(one, two, most=3))
        self.check(one, two, 3)
        self.check(one, two, 4)
        self.assertEqual(smallest_parting(one, two)[0], 4)

    def test_parties_of_both(self):
        found = smallest_parting(A, B & C, most=2)
        self.assertEqual(found[1].parties, ("a", "b", "c"))
        self.assertEqual([found[1].sight(name).marks for name in "abc"], [(0, 0), (0, 0), (0, 1)])

    def test_not_plain(self):
        for bad in NOT_PLAIN:
            self.assert_error(NotPlain, {}, smallest_parting, bad, A)
            self.assert_error(NotPlain, {}, smallest_parting, A, bad, most=1)

    def test_largest(self):
        start = time.perf_counter()
        eight = View.common([View.pooled([A, B]), View.pooled([B, C]), View.pooled([C, A]), View.pooled([A, C])])
        self.assertIsNone(smallest_parting(eight, eight))
        smallest_parting(View.pooled([A | B, B | C, C | A, A | B]), eight)
        self.assertEqual(smallest_parting((NARROW[0] & (A | B)) & (C | A), NARROW[1] | (A & B) | (A & C))[0], 4)
        self.assertLess(time.perf_counter() - start, 10)


if __name__ == "__main__":
    unittest.main()
