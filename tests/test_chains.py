"""Points 9 and 10: what tells what, and chains."""

import itertools
import random
import unittest

from manysights.chains import is_closed, links, reached, tells, unlike_pair
from manysights.errors import SizesDiffer
from manysights.sights import Sight
from tests.helpers import Fails, every_marks, joined


def chains_of(rows, start, steps):
    """Return all chains of so many steps from start, each as deals and indexes."""
    found = [((), (), start)]
    for _ in range(steps):
        found = [
            (deals + (deal,), indexes + (index,), deal)
            for deals, indexes, last in found
            for index, row in enumerate(rows)
            for deal in range(len(row))
            if deal != last and row[deal] == row[last]
        ]
    return found


def first_of(rows, start, goal, size):
    """Return the first chain by looking at all of them."""
    for steps in range(size):
        fitting = [chain for chain in chains_of(rows, start, steps) if chain[2] == goal]
        if fitting:
            deals, indexes, _ = min(fitting)
            return tuple(zip(indexes, deals))
    return None


class TellsTest(Fails, unittest.TestCase):
    def test_all_small_pairs(self):
        rows = every_marks(4)
        for one in rows:
            for two in rows:
                pairs = [(i, j) for i in range(4) for j in range(i + 1, 4) if one[i] == one[j] and two[i] != two[j]]
                self.assertEqual(unlike_pair(Sight(one), Sight(two)), pairs[0] if pairs else None)
                self.assertIs(tells(Sight(one), Sight(two)), not pairs)

    def test_random_pairs(self):
        chance = random.Random(3)
        for _ in range(300):
            size = chance.randint(1, 9)
            one, two = ([chance.randint(0, 4) for _ in range(size)] for _ in range(2))
            pairs = [p for p in itertools.combinations(range(size), 2)
                     if one[p[0]] == one[p[1]] and two[p[0]] != two[p[1]]]
            self.assertEqual(unlike_pair(Sight(one), Sight(two)), pairs[0] if pairs else None)

    def test_sizes_differ(self):
        one, two = Sight([0, 1]), Sight([0, 1, 1])
        for call in (tells, unlike_pair):
            self.assert_error(SizesDiffer, {"one": 2, "two": 3}, call, one, two)
            self.assert_error(SizesDiffer, {"one": 3, "two": 2}, call, two, one)

    def test_large(self):
        one = Sight.nothing(2000)
        self.assertEqual(unlike_pair(one, Sight([0] * 1999 + [1])), (0, 1999))
        self.assertIs(tells(Sight.everything(2000), one), True)


class LinksTest(Fails, unittest.TestCase):
    def test_first_chain_of_small_sights(self):
        chance = random.Random(4)
        for _ in range(150):
            size = chance.randint(1, 5)
            rows = [[chance.randint(0, size - 1) for _ in range(size)] for _ in range(chance.randint(1, 3))]
            sights = [Sight(row) for row in rows]
            start, goal = chance.randrange(size), chance.randrange(size)
            self.assertEqual(links(sights, start, goal), first_of(rows, start, goal, size))
            self.assertEqual(links(tuple(sights), start, goal), links(sights, start, goal))

    def test_order(self):
        one = Sight([0, 0, 0, 1, 1])
        two = Sight([0, 1, 1, 1, 0])
        self.assertEqual(links((one, two), 0, 3), ((0, 1), (1, 3)))
        self.assertEqual(links((two, one), 0, 3), ((1, 1), (0, 3)))
        same = Sight([0, 0])
        self.assertEqual(links((same, same), 0, 1), ((0, 1),))
        self.assertEqual(links((Sight([0, 1]), same, same), 0, 1), ((1, 1),))

    def test_start_equals_goal_and_no_chain(self):
        sight = Sight([0, 0, 1])
        self.assertEqual(links((sight,), 1, 1), ())
        self.assertIsNone(links((sight,), 0, 2))
        self.assertIsNone(links([sight, sight], 2, 1))

    def test_no_sights(self):
        self.assertEqual(links((), 7, 7), ())
        self.assertIsNone(links([], 7, 10**20))
        self.assertEqual(reached((), 10**20), (10**20,))
        self.assertIs(is_closed((), [4, 10**20, 4]), True)
        self.assertIs(is_closed([], ()), True)

    def test_reached_and_closed(self):
        chance = random.Random(5)
        for _ in range(300):
            size = chance.randint(1, 8)
            rows = [[chance.randint(0, size) for _ in range(size)] for _ in range(chance.randint(1, 3))]
            sights = [Sight(row) for row in rows]
            near = joined(rows, size)
            start = chance.randrange(size)
            expected = tuple(deal for deal in range(size) if near[start][deal])
            self.assertEqual(reached(sights, start), expected)
            deals = [chance.randrange(size) for _ in range(chance.randint(0, size))]
            closed = all(other in deals for deal in deals for row in rows for other in range(size)
                         if row[deal] == row[other])
            self.assertIs(is_closed(sights, deals), closed)
            self.assertIs(is_closed(sights, tuple(deals) * 2), closed)
            self.assertIs(is_closed(sights, list(expected) + [start]), True)

    def test_sizes_differ(self):
        sights = [Sight([0, 1]), Sight([0, 0]), Sight([0, 1, 1]), Sight([0])]
        fields = {"one": 2, "two": 3}
        self.assert_error(SizesDiffer, fields, links, sights, 0, 0)
        self.assert_error(SizesDiffer, fields, links, sights, 0, 1)
        self.assert_error(SizesDiffer, fields, reached, sights, 0)
        self.assert_error(SizesDiffer, fields, is_closed, sights, [])
        fields = {"one": 3, "two": 2}
        self.assert_error(SizesDiffer, fields, links, [sights[2], sights[0]], 0, 0)
        self.assert_error(SizesDiffer, fields, reached, [sights[2], sights[0]], 0)
        self.assert_error(SizesDiffer, fields, is_closed, [sights[2], sights[0]], [0])

    def test_arguments_stay(self):
        sights, deals = [Sight([0, 0, 1])], [0, 0, 1]
        self.assertIs(is_closed(sights, deals), True)
        self.assertEqual(deals, [0, 0, 1])
        self.assertEqual(len(sights), 1)

    def test_long_chain(self):
        one = Sight([deal // 2 for deal in range(2000)])
        two = Sight([(deal + 1) // 2 for deal in range(2000)])
        chain = links((one, two), 0, 1999)
        self.assertEqual(chain, tuple((deal % 2, deal + 1) for deal in range(1999)))
        self.assertEqual(links((one, two), 1999, 0)[-1], (0, 0))
        self.assertEqual(reached((one, two), 1000), tuple(range(2000)))
        self.assertIs(is_closed((one, two), range(1999)), False)
        self.assert_tuples(chain)

    def test_large_cells(self):
        sights = [Sight([deal % (index + 2) for deal in range(2000)]) for index in range(8)]
        for goal in (1, 999, 1999):
            chain = links(sights, 0, goal)
            self.assertLessEqual(len(chain), 2)
        wide = [Sight([0] * 1000 + [1] * 1000), Sight([0] * 999 + [1] * 1001)]
        self.assertEqual(links(wide, 0, 1999), ((0, 999), (1, 1999)))


if __name__ == "__main__":
    unittest.main()
