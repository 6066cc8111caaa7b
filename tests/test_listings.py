"""Points 11 and 12: parts, products and lists of sights."""

import inspect
import random
import unittest

from manysights.chains import tells
from manysights.listings import all_sights, crossed, merges, restricted, sight_count, splits
from manysights.sights import Sight
from tests.helpers import Fails, canonical, every_marks


class ListingsTest(Fails, unittest.TestCase):
    def test_restricted(self):
        sight = Sight([0, 1, 0, 2, 1])
        self.assertEqual(restricted(sight, (4, 3, 1)).marks, (0, 1, 0))
        self.assertEqual(restricted(sight, [2]).marks, (0,))
        chance = random.Random(6)
        for _ in range(200):
            size = chance.randint(1, 8)
            marks = [chance.randint(0, 3) for _ in range(size)]
            deals = chance.sample(range(size), chance.randint(1, size))
            small = restricted(Sight(marks), deals)
            self.assertEqual(small.marks, canonical([marks[deal] for deal in deals]))

    def test_crossed(self):
        for one in every_marks(3):
            for two in every_marks(2):
                both = crossed(Sight(one), Sight(two))
                self.assertEqual(both.size, 6)
                for deal in range(6):
                    for other in range(6):
                        alike = one[deal // 2] == one[other // 2] and two[deal % 2] == two[other % 2]
                        self.assertIs(both.alike(deal, other), alike)
        self.assertEqual(crossed(Sight.nothing(40), Sight.everything(50)).size, 2000)

    def test_all_sights(self):
        for size in range(1, 7):
            rows = [sight.marks for sight in all_sights(size)]
            self.assertEqual(rows, every_marks(size))
            self.assertEqual(rows, sorted(rows))
            self.assertEqual(len(rows), sight_count(size))
        self.assertEqual(sum(1 for _ in all_sights(8)), 4140)
        self.assertTrue(inspect.isgenerator(all_sights(3)))
        self.assertEqual([s.marks for s in all_sights(3)], [s.marks for s in all_sights(3)])

    def test_sight_count(self):
        known = [1, 2, 5, 15, 52, 203, 877, 4140, 21147, 115975]
        self.assertEqual([sight_count(size) for size in range(1, 11)], known)
        self.assertEqual(sight_count(25), 4638590332229999353)
        self.assertEqual(sight_count(60), 976939307467007552986994066961675455550246347757474482558637)

    def test_splits_and_merges(self):
        for size in range(1, 6):
            every = [Sight(marks) for marks in every_marks(size)]
            for sight in every:
                more = [other for other in every if len(other.cells) == len(sight.cells) + 1 and tells(other, sight)]
                less = [other for other in every if len(other.cells) == len(sight.cells) - 1 and tells(sight, other)]
                self.assertEqual(splits(sight), tuple(more))
                self.assertEqual(merges(sight), tuple(less))

    def test_largest(self):
        rows = [sight.marks for sight in splits(Sight.nothing(10))]
        self.assertEqual(len(rows), 511)
        self.assertEqual(rows, sorted(rows))
        rows = [sight.marks for sight in merges(Sight.everything(10))]
        self.assertEqual(len(rows), 45)
        self.assertEqual(rows, sorted(rows))
        self.assertEqual(splits(Sight.everything(10)), ())
        self.assertEqual(merges(Sight.nothing(10)), ())


if __name__ == "__main__":
    unittest.main()
