"""Thin views: they tell the given view, but not the other one, and few deals part them."""

import random
import unittest

from manysights.orders import always_tells
from manysights.thinning import Thinning
from manysights.views import View
from tests.helpers import random_plain

A, B, C, D = [View.eyes(name) for name in "abcd"]


def thin(one, two):
    """Return the thin view for `one`, which does not tell `two`."""
    return View(Thinning(two.node).thin(one.node))


class ThinningTest(unittest.TestCase):
    def test_examples(self):
        self.assertEqual(thin(View.common([A, B, C]), A), B)
        self.assertEqual(thin(A & B, C), A & B)
        each = View.common([A & D, B & D, C & D])
        self.assertEqual(thin(View.common([A, B, C]) & D, each), (B | C) & D)
        self.assertEqual(thin((A & (B | C)) | B, A), B)
        self.assertEqual(thin(A & (B | (C & (B | D))), B), View.pooled([A, C & D]))
        # A common view deep inside is judged by the whole view around it.
        deep = View.common([(B | C) & D, C, A])
        self.assertEqual(thin(B & deep, View.common([B & D, A, C])), B & (((B | C) & D) | A))

    def test_random(self):
        chance = random.Random(46)
        count, shorter = 0, 0
        for _ in range(1500):
            one, two = (random_plain(chance, chance.randint(1, 8), "abcd") for _ in range(2))
            if not always_tells(one, two).tells:
                found = thin(one, two)
                self.assertTrue(always_tells(found, one).tells)
                self.assertFalse(always_tells(found, two).tells)
                self.assertLessEqual(len(always_tells(found, two).standing), len(always_tells(one, two).standing))
                count += 1
                shorter += len(str(found.parts)) < len(str(one.parts))
        self.assertGreater(count, 500)
        self.assertGreater(shorter, 300)


if __name__ == "__main__":
    unittest.main()
