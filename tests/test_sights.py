"""Points 7 and 8: sights."""

import random
import unittest

from manysights.errors import NoDeals, SizesDiffer
from manysights.sights import Sight
from tests.helpers import Fails, canonical, every_marks, joined, marks_of_near


class SightTest(Fails, unittest.TestCase):
    def test_fields(self):
        sight = Sight([7, -3, 7, 10**40, -3, 0])
        self.assertEqual(sight.size, 6)
        self.assertEqual(sight.marks, (0, 1, 0, 2, 1, 3))
        self.assertEqual(sight.cells, ((0, 2), (1, 4), (3,), (5,)))
        self.assert_tuples(sight.marks)
        self.assert_tuples(sight.cells)

    def test_marks_of_any_size_and_sign(self):
        chance = random.Random(1)
        for _ in range(300):
            size = chance.randint(1, 9)
            marks = [chance.choice([-(10**50), -2, -1, 0, 1, 2, 10**50]) for _ in range(size)]
            sight = Sight(marks)
            self.assertEqual(sight.marks, canonical(marks))
            self.assertEqual(Sight(tuple(marks)).marks, sight.marks)
            self.assertEqual(sum(sight.cells, ()), tuple(sorted(range(size), key=lambda d: (sight.marks[d], d))))
            for deal in range(size):
                cell = sight.cell_of(deal)
                self.assertEqual(cell, tuple(d for d in range(size) if marks[d] == marks[deal]))
                self.assertIn(cell, sight.cells)
                for other in range(size):
                    self.assertIs(sight.alike(deal, other), marks[deal] == marks[other])

    def test_no_marks(self):
        self.assert_error(NoDeals, {}, Sight, [])
        self.assert_error(NoDeals, {}, Sight, ())

    def test_arguments_stay_and_are_copied(self):
        marks = [5, 5, 6]
        sight = Sight(marks)
        self.assertEqual(marks, [5, 5, 6])
        marks[0] = 9
        marks.append(1)
        self.assertEqual(sight.marks, (0, 0, 1))
        self.assertEqual(sight.size, 3)
        self.assertEqual(sight.cells, ((0, 1), (2,)))

    def test_nothing_and_everything(self):
        for size in (1, 2, 5, 2000):
            self.assertEqual(Sight.nothing(size).marks, (0,) * size)
            self.assertEqual(Sight.everything(size).marks, tuple(range(size)))
            self.assertIsInstance(Sight.nothing(size), Sight)

    def test_and_or(self):
        rows = every_marks(4)
        for one in rows:
            for two in rows:
                both = Sight(one) & Sight(two)
                self.assertEqual(both.marks, canonical(list(zip(one, two))))
                common = Sight(one) | Sight(two)
                self.assertEqual(common.marks, marks_of_near(joined([one, two], 4)))

    def test_or_of_larger_sights(self):
        chance = random.Random(2)
        for _ in range(200):
            size = chance.randint(5, 14)
            rows = [[chance.randint(0, size) for _ in range(size)] for _ in range(2)]
            self.assertEqual((Sight(rows[0]) | Sight(rows[1])).marks, marks_of_near(joined(rows, size)))

    def test_operators_change_nothing(self):
        one, two = Sight([0, 0, 1, 1]), Sight([0, 1, 1, 2])
        self.assertEqual(one & two, one & two)
        self.assertEqual((one | two).marks, (0, 0, 0, 0))
        self.assertEqual((one.marks, two.marks), ((0, 0, 1, 1), (0, 1, 1, 2)))

    def test_equal(self):
        one = Sight([3, 3, 1])
        self.assertIs(one == Sight((0, 0, 9)), True)
        self.assertIs(one != Sight((0, 0, 9)), False)
        for other in (Sight([0, 1, 1]), Sight([0, 0]), Sight([0, 0, 1, 1])):
            self.assertIs(one == other, False)
            self.assertIs(one != other, True)
        for other in (None, (0, 0, 1), [0, 0, 1], "001", 0, True, object(), ((0, 1), (2,))):
            self.assertIs(one == other, False)
            self.assertIs(other == one, False)
            self.assertIs(one != other, True)

    def test_sizes_differ(self):
        one, two = Sight([0, 1]), Sight([0, 1, 1])
        self.assert_error(SizesDiffer, {"one": 2, "two": 3}, lambda: one & two)
        self.assert_error(SizesDiffer, {"one": 3, "two": 2}, lambda: two & one)
        self.assert_error(SizesDiffer, {"one": 2, "two": 3}, lambda: one | two)
        self.assert_error(SizesDiffer, {"one": 3, "two": 2}, lambda: two | one)

    def test_large(self):
        one = Sight([deal // 2 for deal in range(2000)])
        two = Sight([(deal + 1) // 2 for deal in range(2000)])
        self.assertEqual(one | two, Sight.nothing(2000))
        self.assertEqual(one & two, Sight.everything(2000))
        mixed = Sight([deal * 7 % 2000 for deal in range(2000)])
        self.assertEqual(mixed, Sight.everything(2000))
        self.assertEqual(len((Sight([d % 40 for d in range(2000)]) | Sight([d % 50 for d in range(2000)])).cells), 10)


if __name__ == "__main__":
    unittest.main()
