"""Points 18, 23 and 24: what views mean and where claims hold."""

import random
import time
import unittest

from manysights.claims import Claim
from manysights.errors import UnknownDeal, UnknownFact, UnknownParty
from manysights.meanings import holds, sight_of, where
from manysights.pieces import piece_of
from manysights.sights import Sight
from manysights.standings import Standing
from manysights.views import View
from tests.helpers import Fails, meant_alike, meant_true, random_claim, random_grounded, random_standing, random_view

A, B, F = View.eyes("a"), View.eyes("b"), View.value("f")
C = Claim.fact("f", 1)


def table():
    """Return a standing with gaps and weights: the deals 1, 3, 4, 6 and 8."""
    standing = Standing(9).with_fact("f", [0, 0, 0, 1, 1, 0, 0, 0, 1]).with_fact("g", [5, 1, 1, 2, 1, 1, 1, 1, 2])
    standing = standing.with_party("a", [9, 0, 9, 0, 0, 9, 1, 9, 1], weights=[9, 2, 9, 1, 1, 9, 3, 9, 3])
    return standing.with_party("b", [9, 0, 9, 1, 2, 9, 2, 9, 3]).only([1, 3, 4, 6, 8])


class SightOfTest(Fails, unittest.TestCase):
    def test_each_kind(self):
        standing = table()
        rows = [
            (A, [0, 0, 0, 1, 1]),
            (F, [0, 1, 1, 0, 1]),
            (View.whether(C), [0, 1, 1, 0, 1]),
            (View.whether(Claim.always()), [0, 0, 0, 0, 0]),
            (View.when(C, View.value("g")), [0, 1, 2, 0, 1]),
            (View.when(~C, View.value("g")), [0, 1, 1, 0, 1]),
            (View.worth("a", [(2, C)]), [0, 0, 0, 0, 0]),
            (View.worth("a", [(3, C), (-1, Claim.fact("g", 2))]), [0, 0, 0, 1, 1]),
            (View.worth("a", [(1, C)], seen=B), [0, 1, 2, 2, 1]),
            (View.worth("a", []), [0, 0, 0, 0, 0]),
            (A & F, [0, 1, 1, 2, 3]),
            (View.pooled([F, View.value("g")]), [0, 1, 2, 0, 1]),
            (A | B, [0, 0, 0, 0, 0]),
            (View.common([A & F, B]), [0, 1, 1, 1, 2]),
        ]
        for view, marks in rows:
            self.assertEqual(sight_of(standing, view), Sight(marks), view.parts)

    def test_worth_is_an_exact_proportion(self):
        standing = Standing(6).with_fact("f", [1, 0, 1, 0, 1, 0])
        standing = standing.with_party("a", [0, 0, 1, 1, 2, 2], weights=[1, 3, 3, 9, 10**30, 3 * 10**30 + 1])
        self.assertEqual(sight_of(standing, View.worth("a", [(4, C)])).marks, (0, 0, 0, 0, 1, 1))
        self.assertEqual(sight_of(standing, View.worth("a", [(-7, C), (2, C)])).marks, (0, 0, 0, 0, 1, 1))
        standing = Standing(4).with_fact("f", [0, 0, 1, 1])
        standing = standing.with_party("a", [0, 0, 1, 2], weights=[5, 7, 11, 13])
        self.assertEqual(sight_of(standing, View.worth("a", [(0, C)])).marks, (0, 0, 0, 0))
        self.assertEqual(sight_of(standing, View.worth("a", [(1, C), (-1, C)])).marks, (0, 0, 0, 0))
        self.assertEqual(sight_of(standing, View.worth("a", [(1, C)])).marks, (0, 0, 1, 1))

    def test_against_the_words(self):
        chance = random.Random(10)
        for _ in range(400):
            standing = random_standing(chance, most=6)
            view = random_view(chance, 3)
            sight = sight_of(standing, view)
            self.assertEqual(sight.size, len(standing))
            for place, deal in enumerate(standing):
                for second, other in enumerate(standing):
                    self.assertIs(sight.alike(place, second), meant_alike(standing, view.parts, deal, other))

    def test_grounded_views_keep_to_pieces(self):
        chance = random.Random(11)
        for _ in range(200):
            standing = random_standing(chance, most=7)
            view = random_grounded(chance, 3)
            sight = sight_of(standing, view)
            for deal in standing:
                piece = piece_of(standing, deal)
                for other in standing:
                    if other not in piece:
                        self.assertFalse(sight.alike(standing.position(deal), standing.position(other)))


class ClaimsTest(Fails, unittest.TestCase):
    def test_each_kind(self):
        standing = table()
        always, g = Claim.always(), Claim.fact("g", 1)
        rows = [
            (always, [1, 3, 4, 6, 8]),
            (C, [3, 4, 8]),
            (Claim.fact("f", 9), []),
            (~C, [1, 6]),
            (C & g, [4]),
            (C | g, [1, 3, 4, 6, 8]),
            (Claim.all_of([]), [1, 3, 4, 6, 8]),
            (Claim.any_of([]), []),
            (Claim.knows("a", C), []),
            (Claim.knows("b", C), [3, 8]),
            (Claim.known(A & F, C), [3, 4, 8]),
            (Claim.known(A | B, C | g), [1, 3, 4, 6, 8]),
            (Claim.known(A | B, C), []),
            (Claim.likely("a", C, 1, 2), [1, 3, 4, 6, 8]),
            (Claim.likely("a", C, 2, 3), []),
            (Claim.likely("a", g, 2, 3), [1, 3, 4]),
            (Claim.likely("a", g, 3, 4), [1, 3, 4]),
            (Claim.likely("a", g, 4, 5), []),
            (Claim.weighs("a", A, []), [1, 3, 4, 6, 8]),
            (Claim.weighs("a", A, [(-1, C), (1, g)]), [1, 3, 4, 6, 8]),
            (Claim.weighs("a", B, [(-1, C)]), [1]),
            (Claim.gains("a", [(1, g), (-1, C)]), [1, 3, 4]),
            (Claim.gains("a", []), []),
            (Claim.gains("a", [(1, always)]), [1, 3, 4, 6, 8]),
        ]
        for claim, deals in rows:
            self.assertEqual(where(standing, claim), tuple(deals), claim.parts)
            for deal in standing:
                self.assertIs(holds(standing, claim, deal), deal in deals)

    def test_against_the_words(self):
        chance = random.Random(12)
        for _ in range(400):
            standing = random_standing(chance, most=6)
            claim = random_claim(chance, 3)
            expected = tuple(deal for deal in standing if meant_true(standing, claim.parts, deal))
            self.assertEqual(where(standing, claim), expected)
            deal = chance.choice(standing.deals)
            self.assertIs(holds(standing, claim, deal), deal in expected)
            self.assertIs(holds(piece_of(standing, deal), claim, deal), deal in expected)
            self.assert_tuples(where(standing, claim))

    def test_deep_and_long(self):
        chance = random.Random(13)
        claim = C
        for index in range(58):
            claim = Claim.known(View.when(C, View.whether(claim)) & A, C) if index % 4 == 0 else ~claim
        standing = random_standing(chance)
        self.assertEqual(where(standing, claim), where(standing, claim))
        view = A
        for _ in range(58):
            view = (view | B) if chance.random() < 0.5 else (view & B)
        self.assertEqual(sight_of(standing, view).size, len(standing))


class NamesTest(Fails, unittest.TestCase):
    def test_first_name_in_order(self):
        standing = Standing(2).with_fact("f", [0, 1]).with_party("a", [0, 0])
        party, fact = UnknownParty, UnknownFact
        f, g, h = Claim.fact("f", 0), Claim.fact("g", 0), Claim.fact("h", 0)
        x, y = View.eyes("x"), View.eyes("y")
        views = [
            (x, party, "x"), (View.eyes("f"), party, "f"), (View.value("a"), fact, "a"), (View.whether(g), fact, "g"),
            (View.when(g, x), fact, "g"), (View.when(f, x), party, "x"), (View.when(h, View.value("g")), fact, "h"),
            (View.worth("x", [(1, g)], seen=y), party, "x"), (View.worth("a", [(1, g)], seen=y), party, "y"),
            (View.worth("a", [(1, f), (2, h), (3, g)]), fact, "h"), (View.pooled([A, y, x]), party, "y"),
            (View.common([A, A & y, x]), party, "y"), (x & View.value("g"), party, "x"),
        ]
        for view, kind, name in views:
            self.assert_error(kind, {"name": name}, sight_of, standing, view)
        claims = [
            (g, fact, "g"), (~h, fact, "h"), (Claim.known(x, g), party, "x"), (Claim.known(A, h), fact, "h"),
            (Claim.weighs("x", y, [(1, g)]), party, "x"), (Claim.weighs("a", y, [(1, g)]), party, "y"),
            (Claim.weighs("a", A, [(1, f), (0, h), (1, g)]), fact, "h"), (f & g & h, fact, "g"),
            (Claim.any_of([f, h, g]), fact, "h"), (Claim.likely("b", g, 1, 2), party, "b"),
            (Claim.knows("f", g), party, "f"), (Claim.fact("a", 1), fact, "a"),
        ]
        for claim, kind, name in claims:
            self.assert_error(kind, {"name": name}, where, standing, claim)
            for deal in (0, 5):
                self.assert_error(kind, {"name": name}, holds, standing, claim, deal)

    def test_deals_after_names(self):
        standing = Standing(3).with_fact("f", [0, 1, 1]).only([0, 2])
        for deal in (1, 3, -1, 10**30):
            self.assert_error(UnknownDeal, {"deal": deal}, holds, standing, C, deal)


class LargeTest(unittest.TestCase):
    def test_largest(self):
        standing = Standing(2000)
        for index, name in enumerate("abcdef"):
            standing = standing.with_fact(name, [deal // (index + 1) % 10 for deal in range(2000)])
            marks = [deal // (index + 2) for deal in range(2000)]
            standing = standing.with_party(name, marks, weights=[deal % 999 + 1 for deal in range(2000)])
        chance = random.Random(14)
        start = time.perf_counter()
        claim = Claim.fact("a", 1)
        for index in range(20):
            name = "abcdef"[index % 6]
            view = View.worth(name, [(5, claim), (-3, Claim.fact(name, 2))]) & View.eyes(chance.choice("abcdef"))
            claim = Claim.known(view | View.eyes(name), claim) | Claim.likely(name, ~claim, 1, 3)
            if index % 5 == 4:
                claim = Claim.fact(name, 3)
        where(standing, claim)
        views = [View.whether(Claim.knows(name, Claim.fact(other, 3))) & View.eyes(name)
                 for name in "abcdef" for other in "abcdef"]
        sight_of(standing, View.common(views))
        sight_of(standing, View.pooled(views))
        self.assertLess(time.perf_counter() - start, 10)


if __name__ == "__main__":
    unittest.main()
