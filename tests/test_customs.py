"""Points 114 to 116: customs, and what plain views tell under them."""

import random
import time
import unittest

from manysights.answers import view_names
from manysights.chains import tells
from manysights.customs import is_derivation_under, keeps_customs, same_under, tells_under
from manysights.errors import NotPlain, UnknownParty
from manysights.meanings import sight_of
from manysights.orders import Telling, always_tells, parts_views
from manysights.standings import Standing
from manysights.views import View
from tests.helpers import (NOT_PLAIN, Fails, is_right_form, random_plain, random_standing, small_standings, spoilt_forms,
                           tuples_within)

A, B, C, D = (View.eyes(name) for name in "abcd")
SAME = ("same",)


class KeepsTest(Fails, unittest.TestCase):
    def test_kept_and_not_kept(self):
        standing = Standing(4).with_party("a", [0, 1, 2, 3]).with_party("b", [0, 0, 1, 1]).with_party("c", [0, 0, 0, 0])
        for customs in ([], (), [(A, "b")], [[A, "b"], (B, "c")], [(A, "b"), (A, "b")], [(A & C, "b"), (B | A, "c")]):
            self.assertIs(keeps_customs(standing, customs), True)
        for customs in ([(B, "a")], [(A, "b"), (C, "b")], [(A | C, "b")], [(B | C, "b"), (A, "a")]):
            self.assertIs(keeps_customs(standing, customs), False)

    def test_against_the_words(self):
        chance = random.Random(29)
        for _ in range(200):
            standing = random_standing(chance, facts="")
            customs = [(random_plain(chance, chance.randint(1, 3)), chance.choice("abc"))
                       for _ in range(chance.randint(0, 3))]
            kept = all(tells(sight_of(standing, view), standing.sight(party)) for view, party in customs)
            self.assertIs(keeps_customs(standing, customs), kept)

    def test_errors(self):
        standing = Standing(2).with_party("a", [0, 1])
        self.assert_error(UnknownParty, {"name": "d"}, keeps_customs, standing, [(A, "a"), (A & D, "b"), (C, "a")])
        self.assert_error(UnknownParty, {"name": "b"}, keeps_customs, standing, [(A, "b"), (D, "a")])
        self.assert_error(UnknownParty, {"name": "c"}, keeps_customs, standing, [(A & (A | C), "d")])
        for bad in NOT_PLAIN:
            self.assert_error(NotPlain, {}, keeps_customs, standing, [(D, "b"), (bad, "a")])


class DerivationTest(Fails, unittest.TestCase):
    def test_forms(self):
        customs = [(A, "b"), (B & C, "d")]
        rows = [
            (A, B, ("by", 0, SAME, SAME)),
            (A & C, D, ("by", 1, ("to each", (("from", 0, ("by", 0, SAME, SAME)), ("from", 1, SAME))), SAME)),
            (A, B & A, ("to each", (("by", 0, SAME, SAME), SAME))),
            (A, B | C, ("by", 0, SAME, ("to", 0, SAME))),
            (A | B, B, ("from each", (("by", 0, SAME, SAME), SAME))),
            (A, A, SAME),
        ]
        for one, two, value in rows:
            self.assertIs(is_derivation_under(customs, one, two, value), True)
            lists = [[view, party] for view, party in customs]
            self.assertIs(is_derivation_under(tuple(lists), one, two, list(value)), True)
            for other in spoilt_forms(value):
                try:
                    right = is_right_form(customs, one.parts, two.parts, other)
                except (IndexError, TypeError):
                    right = False
                if not right:
                    self.assertIs(is_derivation_under(customs, one, two, other), False, other)

    def test_no_derivations(self):
        for value in (None, 0, (), ("by",), ("by", 0), ("by", 0, SAME), ("by", 0, SAME, SAME, SAME),
                      ("by", -1, SAME, SAME), ("by", 1, SAME, SAME), ("by", None, SAME, SAME), ("by", "0", SAME, SAME),
                      ("by", 0, SAME, None), ("by", 0, None, SAME), ("by", 0, (), ()), ["by", [0], SAME, SAME], "by"):
            self.assertIs(is_derivation_under([(A, "b")], A, B, value), False)
            self.assertIs(is_derivation_under([], A, B, value), False)
        self.assertIs(is_derivation_under([(A, "b")], A, B, ["by", 0, ["same"], ["same"]]), True)

    def test_deep(self):
        value = SAME
        for _ in range(129):
            value = ("by", 0, SAME, value)
        self.assertIs(is_derivation_under([(A, "a")], A, A, value), True)
        self.assertIs(is_derivation_under([(A, "a")], A, B, value), False)
        left = SAME
        for _ in range(129):
            left = ("by", 0, left, SAME)
        self.assertIs(is_derivation_under([(A, "a")], A, A, left), True)


class TellsUnderTest(Fails, unittest.TestCase):
    def check(self, customs, one, two):
        """Hold an answer against the words of the document."""
        found = tells_under(customs, one, two)
        self.assertIsInstance(found, Telling)
        if found.tells:
            self.assertIs(found.tells, True)
            self.assertEqual((found.standing, found.pair), (None, None))
            self.assertTrue(is_right_form(customs, one.parts, two.parts, found.derivation))
            self.assertIs(is_derivation_under(customs, one, two, found.derivation), True)
            self.assertLessEqual(tuples_within(found.derivation), 130)
            self.assert_tuples(found.derivation)
        else:
            self.assertIs(found.tells, False)
            self.assertIsNone(found.derivation)
            self.assert_well_formed(found.standing)
            self.assertIs(keeps_customs(found.standing, customs), True)
            self.assertIs(parts_views(one, two, found.standing, found.pair), True)
            for view, party in customs:
                self.assertLessEqual(set(view_names(view)[0]) | {party}, set(found.standing.parties))
        return found.tells

    def test_simple(self):
        self.assertTrue(self.check([(A, "b")], A, B))
        self.assertFalse(self.check([(A, "b")], B, A))
        self.assertTrue(self.check([(A, "b"), (B, "c")], A, C))
        self.assertTrue(self.check([(A & B, "c")], B & A, B & C))
        self.assertFalse(self.check([(A & B, "c")], A, C))
        self.assertTrue(self.check([(A, "b")], A | B, B))
        self.assertTrue(self.check([(A | B, "c")], A, C))
        self.assertTrue(self.check([(A, "b"), (A, "b")], A, A & B))
        self.assertTrue(self.check([(A | B, "c"), (C, "a")], A | B, A))
        self.assertFalse(self.check([(D, "d")], A, B))

    def test_no_customs(self):
        chance = random.Random(30)
        for _ in range(200):
            one, two = (random_plain(chance, chance.randint(1, 5)) for _ in range(2))
            self.assertIs(self.check([], one, two), always_tells(one, two).tells)

    def test_random(self):
        chance = random.Random(31)
        told = 0
        for _ in range(700):
            names = "abcde"[:chance.randint(2, 5)]
            customs = [(random_plain(chance, chance.randint(1, 5), names), chance.choice(names))
                       for _ in range(chance.randint(1, 4))]
            one, two = (random_plain(chance, chance.randint(1, 5), names) for _ in range(2))
            told += self.check(customs, one, two)
            there = tells_under(customs, two, one).tells
            self.assertIs(same_under(customs, one, two), tells_under(customs, one, two).tells and there)
        self.assertGreater(told, 100)
        self.assertLess(told, 600)

    def test_told_in_all_small_standings(self):
        chance = random.Random(32)
        standings = list(small_standings("abc", 3))
        for _ in range(40):
            customs = [(random_plain(chance, chance.randint(1, 3)), chance.choice("abc")) for _ in range(2)]
            one, two = (random_plain(chance, chance.randint(1, 4)) for _ in range(2))
            if tells_under(customs, one, two).tells:
                for standing in standings:
                    if keeps_customs(standing, customs):
                        self.assertTrue(tells(sight_of(standing, one), sight_of(standing, two)))

    def test_same_under(self):
        self.assertIs(same_under([(A, "b")], A & B, A), True)
        self.assertIs(same_under([(A, "b")], A | B, B), True)
        self.assertIs(same_under([(A, "b")], A, B), False)
        self.assertIs(same_under([], A & (A | B), A), True)

    def test_not_plain(self):
        for bad in NOT_PLAIN:
            for customs, one, two in (([], bad, A), ([], A, bad), ([(A, "b"), (bad, "a")], A, B)):
                self.assert_error(NotPlain, {}, is_derivation_under, customs, one, two, None)
                self.assert_error(NotPlain, {}, tells_under, customs, one, two)
                self.assert_error(NotPlain, {}, same_under, customs, one, two)

    def test_arguments_stay(self):
        customs = [[A, "b"], [B, "c"]]
        tells_under(customs, A, C)
        self.assertEqual(customs, [[A, "b"], [B, "c"]])

    def test_largest(self):
        chance = random.Random(33)
        start = time.perf_counter()
        names = "abcdefgh"
        for _ in range(60):
            customs = [(random_plain(chance, 5, names), party) for party in chance.sample(names, 4)]
            self.check(customs, random_plain(chance, 5, names), random_plain(chance, 5, names))
        five = [A | (B & (C | (D & View.eyes("e")))), A & (B | (C & (D | View.eyes("e"))))]
        for one in five:
            for two in five:
                self.check([(one, "e"), (two, "d"), (one, "c"), (two, "b")], one, two)
                self.check([(two, "a"), (one, "b"), (two, "c"), (one, "d")], two, one)
        self.assertLess(time.perf_counter() - start, 10)

    def test_chain_of_customs(self):
        wide = [View.pooled([View.eyes(name)] * 5) for name in "abcd"]
        customs = list(zip(wide, "bcde"))
        self.assertTrue(self.check(customs, wide[0], View.pooled([View.eyes("e")] * 5)))
        self.assertFalse(self.check(customs, View.pooled([View.eyes("e")] * 5), A))
        deep = [A & (B | (A & (B | A))), B & (C | (B & (C | B))), C & (D | (C & (D | C)))]
        self.assertTrue(self.check(list(zip(deep, "bcd")), A, D))


if __name__ == "__main__":
    unittest.main()
