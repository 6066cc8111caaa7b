"""Points 16 and 17: pieces, and tables side by side."""

import random
import time
import unittest

from manysights.errors import TakenName, UnknownDeal
from manysights.pieces import beside, common_sight, piece_of, pieces
from manysights.sights import Sight
from manysights.standings import Standing
from tests.helpers import Fails, joined, marks_of_near, random_standing


class PiecesTest(Fails, unittest.TestCase):
    def test_chains_of_several_parties(self):
        standing = Standing(7).with_party("a", [0, 0, 1, 1, 2, 3, 4]).with_party("b", [0, 1, 1, 2, 3, 3, 4])
        standing = standing.with_fact("f", [0, 1, 2, 3, 4, 5, 6])
        self.assertEqual(common_sight(standing).marks, (0, 0, 0, 0, 1, 1, 2))
        found = pieces(standing)
        self.assertEqual([piece.deals for piece in found], [(0, 1, 2, 3), (4, 5), (6,)])
        self.assertEqual(found, tuple(standing.only(piece.deals) for piece in found))
        self.assertEqual(found[1].digits("f"), (4, 5))
        self.assertEqual(piece_of(standing, 5), found[1])

    def test_against_closure(self):
        chance = random.Random(8)
        for _ in range(200):
            standing = random_standing(chance, most=8, parties=chance.choice(["", "a", "ab", "abc"]))
            rows = [standing.sight(name).marks for name in standing.parties]
            marks = marks_of_near(joined(rows, len(standing)))
            self.assertEqual(common_sight(standing).marks, marks)
            found = pieces(standing)
            self.assert_well_formed(found[-1])
            self.assertEqual(len(found), max(marks) + 1)
            for number, piece in enumerate(found):
                deals = [deal for deal, mark in zip(standing.deals, marks) if mark == number]
                self.assertEqual(piece, standing.only(deals))
                for deal in deals:
                    self.assertEqual(piece_of(standing, deal), piece)

    def test_no_parties_and_one_piece(self):
        standing = Standing(4).only([1, 3])
        self.assertEqual(common_sight(standing), Sight.everything(2))
        self.assertEqual([piece.deals for piece in pieces(standing)], [(1,), (3,)])
        standing = standing.with_party("a", [0, 0])
        self.assertEqual(pieces(standing), (standing,))
        self.assertEqual(piece_of(standing, 3), standing)

    def test_unknown_deal(self):
        standing = Standing(4).only([1, 3])
        for deal in (0, 2, 4, -1):
            self.assert_error(UnknownDeal, {"deal": deal}, piece_of, standing, deal)

    def test_large(self):
        standing = Standing(2000)
        for name in "abcdef":
            standing = standing.with_party(name, list(range(2000))).with_fact(name, [0] * 2000)
        start = time.perf_counter()
        self.assertEqual(len(pieces(standing)), 2000)
        chain = Standing(2000).with_party("a", [deal // 2 for deal in range(2000)])
        chain = chain.with_party("b", [(deal + 1) // 2 for deal in range(2000)])
        self.assertEqual(pieces(chain), (chain,))
        self.assertLess(time.perf_counter() - start, 5)


class BesideTest(Fails, unittest.TestCase):
    def test_shared_and_separate(self):
        chance = random.Random(9)
        for _ in range(100):
            one = random_standing(chance, most=4, parties="abc", facts="f")
            two = random_standing(chance, most=4, parties="cbd", facts="gh")
            both = beside(one, two)
            self.assertEqual(both.deals, tuple(range(len(one) * len(two))))
            self.assert_well_formed(both)
            self.assertEqual(both.facts, ("f", "g", "h"))
            self.assertEqual(both.parties, ("a", "b", "c", "d"))
            for deal in both:
                left, right = divmod(deal, len(two))
                self.assertEqual(both.digit("f", deal), one.digits("f")[left])
                self.assertEqual(both.digit("h", deal), two.digits("h")[right])
                for name in both.parties:
                    weight = 1
                    if name in one.parties:
                        weight *= one.weights(name)[left]
                    if name in two.parties:
                        weight *= two.weights(name)[right]
                    self.assertEqual(both.weights(name)[deal], weight)
                    for other in both:
                        up, down = divmod(other, len(two))
                        alike = name not in one.parties or one.sight(name).alike(left, up)
                        alike = alike and (name not in two.parties or two.sight(name).alike(right, down))
                        self.assertIs(both.sight(name).alike(deal, other), alike)

    def test_names(self):
        one = Standing(2).with_fact("f", [0, 1]).with_fact("g", [0, 1]).with_party("h", [0, 0])
        two = Standing(2).with_fact("h", [0, 1]).with_fact("g", [0, 1]).with_fact("f", [0, 1])
        self.assert_error(TakenName, {"name": "g"}, beside, one, two)
        self.assert_error(TakenName, {"name": "f"}, beside, two, one)
        both = beside(one, two.without_fact("g").without_fact("f"))
        self.assertEqual((both.facts, both.parties), (("f", "g", "h"), ("h",)))

    def test_nothing_in_them(self):
        self.assertEqual(beside(Standing(3), Standing(2)), Standing(6))
        self.assertEqual(beside(Standing(5).only([2, 4]), Standing(1)), Standing(2))

    def test_large(self):
        one = Standing(40).with_party("a", [deal % 4 for deal in range(40)], weights=[999] * 40)
        both = beside(one, Standing(50).with_party("a", [deal % 5 for deal in range(50)], weights=[999] * 50))
        self.assertEqual(len(both), 2000)
        self.assertEqual(len(both.sight("a").cells), 20)
        self.assertEqual(both.weights("a"), (998001,) * 2000)
        tall = beside(both, both.only([0]).without_party("a").with_party("b", [0], weights=[7]))
        self.assertEqual(tall.weights("b"), (7,) * 2000)


if __name__ == "__main__":
    unittest.main()
