"""Points 13 to 15: standings."""

import itertools
import random
import unittest

from manysights.errors import BadCount, BadDigit, BadLength, BadName, BadWeight, NoDeals, TakenName
from manysights.errors import UnknownDeal, UnknownFact, UnknownName, UnknownParty
from manysights.sights import Sight
from manysights.standings import Standing
from tests.helpers import NAMES, NO_COUNTS, NO_DIGITS, NO_NAMES, NO_WEIGHTS, Fails, canonical, random_standing


def small():
    """Return a standing with two facts and two parties; a fact and a party share a name."""
    standing = Standing(5).with_fact("f", [0, 1, 2, 3, 4]).with_fact("a", (9, 9, 8, 8, 7))
    standing = standing.with_party("a", [0, 0, 1, 1, 1]).with_party("b", [5, -5, 5, -5, 7], weights=[1, 2, 3, 4, 5])
    return standing


class MakingTest(Fails, unittest.TestCase):
    def test_new(self):
        for count in (1, 2, 2000):
            standing = Standing(count)
            self.assertEqual(standing.deals, tuple(range(count)))
            self.assertEqual((standing.facts, standing.parties), ((), ()))
            self.assertEqual(len(standing), count)

    def test_bad_count(self):
        for count in NO_COUNTS:
            self.assert_error(BadCount, {"count": count}, Standing, count)
        marker = object()
        self.assert_error(BadCount, {"count": marker}, Standing, marker)

    def test_with_fact(self):
        standing = small()
        self.assertEqual(standing.facts, ("f", "a"))
        self.assertEqual(standing.digits("f"), (0, 1, 2, 3, 4))
        self.assertEqual(standing.digits("a"), (9, 9, 8, 8, 7))
        for name in NAMES:
            self.assertEqual(Standing(1).with_fact(name, [0]).facts, (name,))

    def test_with_fact_errors(self):
        standing = small()
        for name in NO_NAMES:
            self.assert_error(BadName, {"name": name}, standing.with_fact, name, ["x"])
        self.assert_error(TakenName, {"name": "f"}, standing.with_fact, "f", ["x"])
        for count in (0, 1, 4, 6):
            self.assert_error(BadLength, {"count": count}, standing.with_fact, "g", ["x"] * count)
        for item in NO_DIGITS:
            for place in range(5):
                digits = [0, 1, 2, 9, 4]
                digits[place] = item
                self.assert_error(BadDigit, {"index": place}, standing.with_fact, "g", digits)
        self.assert_error(BadDigit, {"index": 1}, standing.with_fact, "g", [0, None, 0, 10, 0])
        self.assertEqual(standing, small())

    def test_with_party(self):
        standing = small()
        self.assertEqual(standing.parties, ("a", "b"))
        self.assertEqual(standing.sight("a"), Sight([0, 0, 1, 1, 1]))
        self.assertEqual(standing.sight("b").marks, (0, 1, 0, 1, 2))
        self.assertEqual(standing.weights("a"), (1, 1, 1, 1, 1))
        self.assertEqual(standing.weights("b"), (1, 2, 3, 4, 5))
        self.assertEqual(standing.with_party("c", [0] * 5, weights=None).weights("c"), (1,) * 5)
        large = standing.with_party("c", (10**30,) * 5, weights=[999, 1, 1, 1, 10**40])
        self.assertEqual(large.weights("c"), (999, 1, 1, 1, 10**40))
        for name in NAMES:
            self.assertEqual(Standing(1).with_party(name, [0]).parties, (name,))

    def test_with_party_errors(self):
        standing = small()
        for name in NO_NAMES:
            self.assert_error(BadName, {"name": name}, standing.with_party, name, [], weights=[0])
        self.assert_error(TakenName, {"name": "b"}, standing.with_party, "b", [], weights=[0])
        self.assert_error(BadLength, {"count": 4}, standing.with_party, "f", [0] * 4, weights=[0] * 3)
        self.assert_error(BadLength, {"count": 6}, standing.with_party, "f", [0] * 6)
        self.assert_error(BadLength, {"count": 3}, standing.with_party, "f", [0] * 5, weights=[0] * 3)
        self.assert_error(BadLength, {"count": 0}, standing.with_party, "f", [0] * 5, weights=[])
        for item in NO_WEIGHTS:
            for place in range(5):
                weights = [1, 2, 3, 4, 999]
                weights[place] = item
                self.assert_error(BadWeight, {"index": place}, standing.with_party, "f", [0] * 5, weights=weights)
        self.assert_error(BadWeight, {"index": 1}, standing.with_party, "f", [0] * 5, weights=[1, 0, 1, "", 1])
        self.assertEqual(standing, small())

    def test_without(self):
        standing = small()
        less = standing.without_fact("a")
        self.assertEqual((less.facts, less.parties), (("f",), ("a", "b")))
        less = standing.without_party("a")
        self.assertEqual((less.facts, less.parties), (("f", "a"), ("b",)))
        self.assertEqual(less.weights("b"), (1, 2, 3, 4, 5))
        self.assert_error(UnknownFact, {"name": "b"}, standing.without_fact, "b")
        self.assert_error(UnknownParty, {"name": "f"}, standing.without_party, "f")
        self.assertEqual(standing.facts, ("f", "a"))
        self.assertEqual(less.without_party("b").parties, ())

    def test_arguments_are_copied(self):
        digits, marks, weights = [1, 2], [3, 3], [4, 5]
        standing = Standing(2).with_fact("f", digits).with_party("a", marks, weights=weights)
        self.assertEqual((digits, marks, weights), ([1, 2], [3, 3], [4, 5]))
        digits[0], marks[0], weights[0] = 9, 9, 9
        self.assertEqual(standing.digits("f"), (1, 2))
        self.assertEqual(standing.sight("a").marks, (0, 0))
        self.assertEqual(standing.weights("a"), (4, 5))
        for value in (standing.deals, standing.facts, standing.digits("f"), standing.weights("a"), standing.key):
            self.assert_tuples(value)

    def test_many(self):
        standing = Standing(2000)
        for index in range(6):
            name = "abcdef"[index]
            standing = standing.with_fact(name, [deal % 10 for deal in range(2000)])
            standing = standing.with_party(name, [deal // (index + 1) for deal in range(2000)], weights=[999] * 2000)
        for deal in range(0, 2000, 7):
            self.assertEqual(standing.digit("c", deal), deal % 10)
        half = standing.only(list(range(1999, 0, -2)))
        self.assertEqual(len(half), 1000)
        self.assertEqual(half.sight("b"), Sight.everything(1000))


class OnlyTest(Fails, unittest.TestCase):
    def test_only(self):
        standing = small().only([4, 1, 3, 1])
        self.assertEqual(standing.deals, (1, 3, 4))
        self.assertEqual(standing.digits("f"), (1, 3, 4))
        self.assertEqual(standing.digits("a"), (9, 8, 7))
        self.assertEqual(standing.sight("a").marks, (0, 1, 1))
        self.assertEqual(standing.sight("b").marks, (0, 0, 1))
        self.assertEqual(standing.weights("b"), (2, 4, 5))
        self.assertEqual(standing.position(4), 2)
        self.assertEqual(standing.digit("f", 4), 4)
        self.assertEqual(small().only(range(5)), small())
        last = standing.only((4, 3)).only([4])
        self.assertEqual((last.deals, last.digits("f"), last.sight("b").marks), ((4,), (4,), (0,)))

    def test_against_plain_counterpart(self):
        chance = random.Random(7)
        for _ in range(200):
            standing = random_standing(chance)
            deals = chance.choices(standing.deals, k=chance.randint(1, 8))
            less = standing.only(deals)
            kept = sorted(set(deals))
            self.assert_well_formed(less)
            self.assertEqual(less.deals, tuple(kept))
            for name in standing.facts:
                self.assertEqual(less.digits(name), tuple(standing.digit(name, deal) for deal in kept))
            for name in standing.parties:
                marks = [standing.sight(name).marks[standing.position(deal)] for deal in kept]
                self.assertEqual(less.sight(name).marks, canonical(marks))
                weights = [standing.weights(name)[standing.position(deal)] for deal in kept]
                self.assertEqual(less.weights(name), tuple(weights))

    def test_errors(self):
        standing = small().only([0, 2, 3])
        self.assert_error(NoDeals, {}, standing.only, [])
        self.assert_error(NoDeals, {}, standing.only, ())
        self.assert_error(NoDeals, {}, Standing(3).only, [])
        self.assert_error(NoDeals, {}, Standing(3).with_fact("f", [0, 0, 0]).only, [])
        self.assert_error(UnknownDeal, {"deal": 1}, standing.only, [0, 1, 4])
        self.assert_error(UnknownDeal, {"deal": 4}, standing.only, [4])
        self.assert_error(UnknownDeal, {"deal": -1}, standing.only, [2, -1, 1])
        self.assert_error(UnknownDeal, {"deal": 10**30}, standing.only, [10**30])
        self.assertEqual(standing.deals, (0, 2, 3))


class ReadingTest(Fails, unittest.TestCase):
    def test_read(self):
        standing = small().only([1, 4])
        self.assertEqual(standing.digit("a", 4), 7)
        self.assertEqual(standing.digit("f", 1), 1)
        self.assertEqual([standing.position(deal) for deal in standing], [0, 1])

    def test_errors(self):
        standing = small().only([0, 2, 3])
        self.assert_error(UnknownFact, {"name": "b"}, standing.digit, "b", 1)
        self.assert_error(UnknownDeal, {"deal": 1}, standing.digit, "f", 1)
        self.assert_error(UnknownFact, {"name": "b"}, standing.digits, "b")
        self.assert_error(UnknownParty, {"name": "f"}, standing.sight, "f")
        self.assert_error(UnknownParty, {"name": "f"}, standing.weights, "f")
        self.assert_error(UnknownDeal, {"deal": 5}, standing.position, 5)
        self.assert_error(UnknownDeal, {"deal": -1}, standing.position, -1)
        self.assertTrue(issubclass(UnknownParty, UnknownName) and issubclass(UnknownFact, UnknownName))

    def test_contains_len_iteration(self):
        standing = small().only([0, 2, 3])
        self.assertIs(2 in standing, True)
        for deal in (1, -1, 4, 5, 10**40, -(10**40)):
            self.assertIs(deal in standing, False)
        self.assertEqual(len(standing), 3)
        self.assertEqual(list(standing), [0, 2, 3])
        self.assertEqual([deal for deal in standing for _ in standing], [0, 0, 0, 2, 2, 2, 3, 3, 3])

    def test_equal_on_different_roads(self):
        one = small().only([0, 2, 4])
        two = small().with_fact("g", [0] * 5).only([4, 2, 0]).without_fact("g")
        three = small().with_party("c", [0] * 5).only([2, 4, 0, 0]).without_party("c")
        four = small().without_party("b").with_party("b", [1, 2, 1, 2, 3], weights=(1, 2, 3, 4, 5)).only((0, 2, 4))
        for left, right in itertools.product((one, two, three, four), repeat=2):
            self.assertIs(left == right, True)
            self.assertIs(left != right, False)
            self.assertEqual(left.key, right.key)
            self.assertIsInstance(left.key, tuple)

    def test_one_thing_changed(self):
        base = Standing(3).with_fact("f", [0, 1, 2]).with_fact("g", [0, 0, 0])
        base = base.with_party("a", [0, 0, 1]).with_party("b", [0, 1, 1], weights=[1, 2, 3])
        facts = base.without_party("a").without_party("b")
        others = [
            base.only([0, 1]), facts, base.without_fact("f"), base.without_party("a"),
            base.without_fact("g").with_fact("g", [0, 0, 1]),
            base.without_fact("g").with_fact("h", [0, 0, 0]),
            base.without_fact("f").with_fact("f", [0, 1, 2]),
            base.without_party("a").with_party("a", [0, 0, 1]),
            base.without_party("b").with_party("b", [0, 1, 1]),
            base.without_party("b").with_party("b", [0, 1, 1], weights=[2, 4, 6]),
            base.without_party("b").with_party("b", [0, 1, 2], weights=[1, 2, 3]),
            base.without_party("b").with_party("c", [0, 1, 1], weights=[1, 2, 3]),
            base.with_fact("h", [0, 0, 0]), base.with_party("c", [0, 0, 0]), Standing(3),
        ]
        shifted = Standing(4).with_fact("f", [9, 0, 1, 2]).with_fact("g", [0, 0, 0, 0])
        shifted = shifted.with_party("a", [9, 0, 0, 1]).with_party("b", [9, 0, 1, 1], weights=[9, 1, 2, 3])
        others.append(shifted.only([1, 2, 3]))
        for one, two in itertools.combinations([base] + others, 2):
            self.assertIs(one == two, False)
            self.assertIs(one != two, True)
            self.assertNotEqual(one.key, two.key)
        for value in (None, base.key, base.deals, 3, "f", object(), [0, 1, 2]):
            self.assertIs(base == value, False)
            self.assertIs(base != value, True)

    def test_never_changes(self):
        standing = small()
        key = standing.key
        standing.with_fact("z", [0] * 5)
        standing.with_party("z", [0] * 5)
        standing.without_fact("f")
        standing.without_party("a")
        standing.only([1])
        self.assertEqual(standing.key, key)
        self.assertEqual(standing, small())


if __name__ == "__main__":
    unittest.main()
