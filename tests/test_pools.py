"""Points 18, 66 and 67: what groups know together, and least and greatest groups."""

import itertools
import random
import time
import unittest

from manysights.chains import tells
from manysights.errors import UnknownFact, UnknownParty
from manysights.meanings import sight_of
from manysights.pieces import common_sight
from manysights.pools import pooled_sight, seeing_groups, unseeing_groups
from manysights.sights import Sight
from manysights.standings import Standing
from manysights.views import View
from tests.helpers import Fails, random_standing, random_view

F = View.value("f")


def table():
    """Return a standing in which b and c see together what a sees alone."""
    made = Standing(4).with_fact("f", [0, 1, 2, 3]).with_party("c", [0, 0, 1, 1]).with_party("a", [0, 1, 2, 3])
    return made.with_party("b", [0, 1, 0, 1])


def plain_groups(standing, view):
    """Return the least groups that see and the greatest that do not, by a walk over all groups."""
    seen, rows = sight_of(standing, view), {}
    names = standing.parties
    for size in range(len(names) + 1):
        for row in itertools.combinations(range(len(names)), size):
            marks = list(zip(common_sight(standing).marks, *[standing.sight(names[index]).marks for index in row]))
            rows[row] = tells(Sight(marks), seen)
    least = [row for row in rows if rows[row] and not any(
        rows[other] for other in rows if set(other) < set(row))]
    most = [row for row in rows if not rows[row] and all(
        rows[other] for other in rows if set(other) > set(row) and len(other) == len(row) + 1)]
    return tuple(tuple(tuple(names[index] for index in row) for row in found) for found in (least, most))


class PoolsTest(Fails, unittest.TestCase):
    def test_pooled_sight(self):
        self.assertEqual(pooled_sight(table(), ["b", "c"]), Sight([0, 1, 2, 3]))
        self.assertEqual(pooled_sight(table(), ("b", "c", "b", "b")), pooled_sight(table(), ("c", "b")))
        self.assertEqual(pooled_sight(table(), []), Sight.nothing(4))
        apart = Standing(4).with_party("a", [0, 0, 1, 1]).with_party("b", [0, 1, 2, 2])
        self.assertEqual(pooled_sight(apart, []), Sight([0, 0, 1, 1]))
        self.assertEqual(pooled_sight(Standing(3), []), Sight.everything(3))
        chance = random.Random(66)
        for _ in range(200):
            standing = random_standing(chance)
            group = [chance.choice("abc") for _ in range(chance.randint(0, 4))]
            marks = list(zip(common_sight(standing).marks, *[standing.sight(name).marks for name in group]))
            self.assertEqual(pooled_sight(standing, group), Sight(marks))

    def test_examples(self):
        self.assertEqual(seeing_groups(table(), F), (("a",), ("c", "b")))
        self.assertEqual(unseeing_groups(table(), F), (("c",), ("b",)))
        nothing = View.common([View.eyes("b"), View.eyes("c")])
        self.assertEqual(seeing_groups(table(), nothing), ((),))
        self.assertEqual(unseeing_groups(table(), nothing), ())
        blind = Standing(2).with_fact("f", [0, 1]).with_party("b", [0, 0]).with_party("a", [0, 0])
        self.assertEqual(seeing_groups(blind, F), ())
        self.assertEqual(unseeing_groups(blind, F), (("b", "a"),))
        self.assertEqual(unseeing_groups(Standing(2).with_fact("f", [0, 1]), F), ())
        self.assertEqual(seeing_groups(Standing(2).with_fact("f", [0, 1]), F), ((),))

    def test_against_a_walk(self):
        chance = random.Random(67)
        shapes = {}
        for _ in range(250):
            parties = "".join(chance.sample("abcdef", chance.randint(1, 6)))
            standing = random_standing(chance, parties=parties, weights=False)
            view = random_view(chance, 1, parties)
            found = (seeing_groups(standing, view), unseeing_groups(standing, view))
            self.assertEqual(found, plain_groups(standing, view))
            self.assert_tuples(found)
            shapes[(min(len(found[0]), 3), min(len(found[1]), 3))] = True
        self.assertGreater(len(shapes), 5)

    def test_names(self):
        self.assert_error(UnknownParty, {"name": "q"}, pooled_sight, table(), ["a", "q", "p"])
        for call in (seeing_groups, unseeing_groups):
            self.assert_error(UnknownParty, {"name": "q"}, call, table(), View.eyes("q") & View.value("x"))
            self.assert_error(UnknownFact, {"name": "x"}, call, table(), View.value("x") & View.eyes("q"))

    def test_largest(self):
        start = time.time()
        standing = Standing(2000).with_fact("f", [deal * 7 % 10 for deal in range(2000)])
        for index, name in enumerate("abcdef"):
            standing = standing.with_party(name, [deal // 3 ** index % 3 for deal in range(2000)])
        self.assertEqual(seeing_groups(standing, View.common([View.eyes("a"), View.eyes("b")])), ((),))
        self.assertEqual(seeing_groups(standing, View.eyes("f")), (("f",),))
        self.assertEqual(len(unseeing_groups(standing, View.pooled([View.eyes(name) for name in "abcdef"]))), 6)
        self.assertLess(time.time() - start, 20)


if __name__ == "__main__":
    unittest.main()
