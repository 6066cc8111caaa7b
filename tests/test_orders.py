"""Points 28 to 31: derivations, and which plain views always tell others."""

import random
import time
import unittest

from manysights.errors import NotPlain
from manysights.orders import always_alike, always_tells, is_derivation, parts_views
from manysights.sights import Sight
from manysights.standings import Standing
from manysights.views import View
from tests.helpers import (NOT_PLAIN, Fails, is_right_form, meant_alike, random_plain, small_standings, spoilt_forms,
                           tuples_within)

A, B, C = View.eyes("a"), View.eyes("b"), View.eyes("c")
SAME = ("same",)


class DerivationTest(Fails, unittest.TestCase):
    def test_each_form(self):
        rows = [
            (A, A, SAME),
            (A & B, B, ("from", 1, SAME)),
            (View.pooled([A, B, A]), A, ("from", 2, SAME)),
            (A, B | A, ("to", 1, SAME)),
            (A | A, A, ("from each", (SAME, SAME))),
            (A, A & A, ("to each", (SAME, SAME))),
            (A & B, B & A, ("to each", (("from", 1, SAME), ("from", 0, SAME)))),
            (A | B, B | A, ("from each", (("to", 1, SAME), ("to", 0, SAME)))),
            (A & B, A | B, ("from", 0, ("to", 0, SAME))),
            (A & B, A | B, ("to", 1, ("from", 1, SAME))),
            ((A & B) | (A & C), A & (B | C), ("to each", (
                ("from each", (("from", 0, SAME), ("from", 0, SAME))),
                ("from each", (("from", 1, ("to", 0, SAME)), ("from", 1, ("to", 1, SAME))))))),
        ]
        for one, two, value in rows:
            self.assertIs(is_derivation(one, two, value), True, value)
            self.assertIs(is_derivation(one, two, as_lists(value)), True, value)
            for other in spoilt_forms(value):
                right = False
                try:
                    right = is_right_form((), one.parts, two.parts, other) and fine_indexes(other)
                except (IndexError, TypeError):
                    pass
                self.assertIs(is_derivation(one, two, other), right, other)

    def test_no_derivations(self):
        values = [None, 0, 5, -1, "", "same", "from each", (), [], (None,), (0,), ((),), ([],), ("same", ()),
                  (("same",),), ("same", None), ("from", 0), ("from", 0, None), ("from", 0, ()), ("from", 0, "same"),
                  ("to", 0, SAME), ("from each", SAME), ("from each", (SAME,)), ("from each", "ab"),
                  ("from each", ()), ("to each", ()), ("to each", (SAME, SAME)), ("by", 0, SAME, SAME),
                  ("from", "0", SAME), ("from", None, SAME), ("from", (0,), SAME), ("from", -1, SAME),
                  ("from", 2, SAME), ("from", 0, SAME, SAME), ("from", 10**30, SAME), "from", [["from", 0, SAME]]]
        for value in values:
            self.assertIs(is_derivation(A & B, B, value), False, value)
        for value in values:
            self.assertIs(is_derivation(A, B, value), False, value)
        for value in (SAME, ["same"]):
            self.assertIs(is_derivation(A, A, value), True)
            self.assertIs(is_derivation(A, B, value), False)
            self.assertIs(is_derivation(A & B, A & B, value), False)
        deep = SAME
        for _ in range(58):
            deep = ("from", 0, deep)
        self.assertIs(is_derivation(A & B, A, deep), False)

    def test_value_stays(self):
        value = ["from", 1, ["same"]]
        self.assertIs(is_derivation(A & B, B, value), True)
        self.assertEqual(value, ["from", 1, ["same"]])


def as_lists(value):
    """Return the value with lists for tuples."""
    return [as_lists(item) for item in value] if isinstance(value, tuple) else value


def fine_indexes(value):
    """Tell whether no index in the value is negative, and each form with an index has three items."""
    if not isinstance(value, tuple):
        return not isinstance(value, int) or value >= 0
    if value and value[0] in ("from", "to") and len(value) != 3:
        return False
    return all(fine_indexes(item) for item in value)


class TellingTest(Fails, unittest.TestCase):
    def check(self, one, two):
        """Hold an answer against the words of the document."""
        found = always_tells(one, two)
        if found.tells:
            self.assertIs(found.tells, True)
            self.assertIsNone(found.standing)
            self.assertIsNone(found.pair)
            self.assertTrue(is_right_form((), one.parts, two.parts, found.derivation))
            self.assertIs(is_derivation(one, two, found.derivation), True)
            self.assert_tuples(found.derivation)
            self.assertLess(tuples_within(found.derivation), 60)
        else:
            self.assertIs(found.tells, False)
            self.assertIsNone(found.derivation)
            deal, other = found.pair
            self.assert_well_formed(found.standing)
            self.assertTrue(deal in found.standing and other in found.standing)
            if len(found.standing) < 12:
                self.assertTrue(meant_alike(found.standing, one.parts, deal, other))
                self.assertFalse(meant_alike(found.standing, two.parts, deal, other))
            self.assertIs(parts_views(one, two, found.standing, found.pair), True)
            self.assertIs(parts_views(one, two, found.standing, list(found.pair)), True)
        return found.tells

    def test_known_laws(self):
        tells = [
            (A, A), (A & B, A), (A, A | B), (A & B, A | B), (A, A & (A | B)), (A & (A | B), A), (A | (A & B), A),
            ((A & B) | (A & C), A & (B | C)), (A | (B & C), (A | B) & (A | C)), ((A & B) & C, A & (B & C)),
            (A | (B | C), (C | A) | B),
        ]
        for one, two in tells:
            self.assertTrue(self.check(one, two))
        parted = [
            (A, B), (A, A & B), (A | B, A), (A & (B | C), (A & B) | (A & C)), ((A | B) & (A | C), A | (B & C)),
            (A & (B | (A & C)), (A & B) | (A & C)), (A & (B | C), A & B), (A | B, A & B),
        ]
        for one, two in parted:
            self.assertFalse(self.check(one, two))

    def test_random_views(self):
        chance = random.Random(19)
        told = 0
        for _ in range(1500):
            names = "abcd"[:chance.randint(1, 4)]
            told += self.check(random_plain(chance, chance.randint(1, 8), names),
                               random_plain(chance, chance.randint(1, 8), names))
        self.assertGreater(told, 100)

    def test_told_in_all_small_standings(self):
        chance = random.Random(20)
        standings = [list(small_standings("ab", 4)), list(small_standings("abc", 3))]
        for index in range(60):
            names = ("ab", "abc")[index % 2]
            one, two = (random_plain(chance, chance.randint(1, 5), names) for _ in range(2))
            parted = any(parts_views(one, two, standing, (deal, other)) for standing in standings[index % 2]
                         for deal in standing for other in range(deal))
            if always_tells(one, two).tells:
                self.assertFalse(parted)

    def test_alike(self):
        chance = random.Random(21)
        for _ in range(300):
            one, two = (random_plain(chance, chance.randint(1, 5), "ab") for _ in range(2))
            both = always_tells(one, two).tells and always_tells(two, one).tells
            self.assertIs(always_alike(one, two), both)
        self.assertIs(always_alike(A & (A | B), A), True)
        self.assertIs(always_alike(A, A & B), False)
        self.assertIs(always_alike(A & B, A), False)

    def test_parts_views(self):
        standing = Standing(5).with_party("a", [0, 0, 1, 1, 2]).with_party("b", [0, 1, 1, 2, 2]).only([1, 2, 3, 4])
        self.assertIs(parts_views(A | B, A, standing, (1, 2)), True)
        self.assertIs(parts_views(A | B, A, standing, [4, 1]), True)
        self.assertIs(parts_views(A | B, A, standing, (2, 3)), False)
        self.assertIs(parts_views(A, B, standing, (1, 2)), False)
        self.assertIs(parts_views(A | B, A, standing, (1, 1)), False)
        for pair in ((0, 1), (1, 0), (-1, 2), (2, 10**30), (5, 5)):
            self.assertIs(parts_views(A | B, A, standing, pair), False)
        self.assertIs(parts_views(A | C, A, standing, (1, 2)), False)
        self.assertIs(parts_views(A | B, C, standing, (1, 2)), False)
        self.assertIs(parts_views(A | B, A & A, standing.with_party("c", [0] * 4), (1, 2)), True)
        self.assertEqual(standing.sight("a"), Sight([0, 1, 1, 2]))

    def test_not_plain(self):
        standing = Standing(1)
        for bad in NOT_PLAIN:
            for one, two in ((bad, A), (A, bad), (bad, bad)):
                self.assert_error(NotPlain, {}, is_derivation, one, two, None)
                self.assert_error(NotPlain, {}, always_tells, one, two)
                self.assert_error(NotPlain, {}, parts_views, one, two, standing, (7, 8))
                self.assert_error(NotPlain, {}, always_alike, one, two)

    def test_largest(self):
        chance = random.Random(22)
        start = time.perf_counter()
        nested = A
        for name in "bcdefgh":
            nested = View.common([View.eyes(name), nested])
        turned = A
        for index, name in enumerate("bcdefgh"):
            turned = View.eyes(name) & turned if index % 2 else View.eyes(name) | turned
        rows = [(nested, A), (nested, nested), (turned, nested), (nested, turned), (turned, turned), (turned, A)]
        rows.extend((random_plain(chance, 8, "abcdefgh"), random_plain(chance, 8, "abcdefgh")) for _ in range(50))
        for one, two in rows:
            self.check(one, two)
        self.assertLess(time.perf_counter() - start, 10)


if __name__ == "__main__":
    unittest.main()
