"""Points 25 to 27: answers, verdicts, reasons and names."""

import random
import unittest

from manysights.answers import Asker, claim_names, reason, verdict, view_names
from manysights.chains import links
from manysights.claims import Claim
from manysights.errors import NotGrounded, UnknownDeal, UnknownFact, UnknownParty
from manysights.meanings import holds, sight_of, where
from manysights.standings import Standing
from manysights.views import View
from tests.helpers import Fails, random_claim, random_grounded, random_standing, random_view, view_from

A, B, F = View.eyes("a"), View.eyes("b"), View.value("f")
C = Claim.fact("f", 1)


def table():
    """Return a standing with the open deals 1, 3, 5, 7 and 9."""
    standing = Standing(10).with_fact("f", [0, 1, 0, 1, 0, 0, 0, 0, 0, 1])
    standing = standing.with_party("a", [0, 1, 0, 1, 0, 2, 0, 2, 0, 3])
    return standing.with_party("b", [0, 1, 0, 2, 0, 2, 0, 3, 0, 3]).only([1, 3, 5, 7, 9])


class AskerTest(Fails, unittest.TestCase):
    def test_answers(self):
        ask = Asker(table(), "a")
        self.assertEqual([ask(C, deal) for deal in (1, 3, 5, 7, 9)], ["yes", "yes", "no", "no", "yes"])
        ask = Asker(table(), "b")
        self.assertEqual([ask(C, deal) for deal in (1, 3, 5, 7, 9)], ["yes", "unsure", "unsure", "unsure", "unsure"])
        self.assertEqual(ask(Claim.always(), 7), "yes")
        self.assertEqual(ask(~Claim.always(), 7), "no")

    def test_against_knowledge_and_answer_view(self):
        chance = random.Random(15)
        for _ in range(150):
            standing = random_standing(chance)
            claim = random_claim(chance, 2)
            ask = Asker(standing, "b")
            told = []
            for deal in standing:
                if holds(standing, Claim.knows("b", claim), deal):
                    told.append("yes")
                elif holds(standing, Claim.knows("b", ~claim), deal):
                    told.append("no")
                else:
                    told.append("unsure")
                self.assertEqual(ask(claim, deal), told[-1])
            sight = sight_of(standing, View.answer("b", claim))
            for place, one in enumerate(told):
                for other, two in enumerate(told):
                    self.assertIs(sight.alike(place, other), one == two)

    def test_errors(self):
        self.assert_error(UnknownParty, {"name": "f"}, Asker, table(), "f")
        ask = Asker(table(), "a")
        self.assert_error(UnknownFact, {"name": "g"}, ask, Claim.fact("g", 1), 2)
        self.assert_error(UnknownParty, {"name": "c"}, ask, Claim.knows("c", Claim.fact("g", 1)), 1)
        self.assert_error(UnknownDeal, {"deal": 2}, ask, C, 2)
        self.assertEqual(ask(C, 1), "yes")


class VerdictTest(Fails, unittest.TestCase):
    def test_verdict(self):
        self.assertEqual(verdict(table(), C), "open")
        self.assertEqual(verdict(table(), C | ~C), "sure")
        self.assertEqual(verdict(table(), C & ~C), "never")
        self.assertEqual(verdict(table().only([1, 3]), C), "sure")
        self.assertEqual(verdict(table().only([5]), C), "never")
        self.assert_error(UnknownFact, {"name": "g"}, verdict, table(), C & Claim.fact("g", 1))
        chance = random.Random(16)
        for _ in range(100):
            standing = random_standing(chance)
            claim = random_claim(chance, 2)
            count = len(where(standing, claim))
            word = "never" if count == 0 else "sure" if count == len(standing) else "open"
            self.assertEqual(verdict(standing, claim), word)


class OrderTest(Fails, unittest.TestCase):
    def test_first_name_in_the_written_form(self):
        standing = table()
        claim = Claim.weighs("x", View.eyes("y"), [(1, Claim.fact("h", 1))])
        view = View.common([A & View.whether(Claim.fact("g", 1)), View.eyes("z")])
        self.assert_error(UnknownParty, {"name": "x"}, verdict, standing, claim)
        self.assert_error(UnknownParty, {"name": "x"}, Asker(standing, "a"), claim, 2)
        self.assert_error(UnknownParty, {"name": "x"}, reason, standing, A, claim, 2)
        self.assert_error(UnknownFact, {"name": "g"}, reason, standing, view, claim, 2)
        self.assert_error(UnknownFact, {"name": "g"}, verdict, standing, Claim.known(view, claim))


class ReasonTest(Fails, unittest.TestCase):
    def test_known(self):
        found = reason(table(), A, C, 3)
        self.assertIs(found.is_known, True)
        self.assertEqual(found.cell, (1, 3))
        self.assertIsNone(found.chain)

    def test_not_known(self):
        found = reason(table(), A | B, C, 1)
        self.assertIs(found.is_known, False)
        self.assertEqual(found.cell, (1, 3, 5, 7, 9))
        self.assertEqual(found.chain, ((0, 3), (1, 5)))
        found = reason(table(), View.common([B, A]), C, 1)
        self.assertEqual(found.chain, ((1, 3), (0, 5)))
        found = reason(table(), B, C, 9)
        self.assertEqual((found.is_known, found.cell, found.chain), (False, (7, 9), ((0, 7),)))

    def test_empty_chain(self):
        for view in (A, B, A | B, A & F):
            found = reason(table(), view, C, 5)
            self.assertIs(found.is_known, False)
            self.assertEqual(found.chain, ())
        self.assertEqual(reason(table(), A & F, C, 5).cell, (5, 7))

    def test_against_the_words(self):
        chance = random.Random(17)
        for _ in range(300):
            standing = random_standing(chance)
            view, claim = random_grounded(chance, 2), random_claim(chance, 2)
            deal = chance.choice(standing.deals)
            found = reason(standing, view, claim, deal)
            self.assertIs(found.is_known, holds(standing, Claim.known(view, claim), deal))
            places = sight_of(standing, view).cell_of(standing.position(deal))
            self.assertEqual(found.cell, tuple(standing.deals[place] for place in places))
            self.assert_tuples((found.cell, found.chain))
            if found.is_known:
                self.assertIsNone(found.chain)
                continue
            members = view.parts[1] if view.parts[0] == "common" else [view.parts]
            sights = [sight_of(standing, view_from(parts)) for parts in members]
            goals = [standing.position(other) for other in found.cell if not holds(standing, claim, other)]
            chains = [links(sights, standing.position(deal), goal) for goal in goals]
            chains = [chain for chain in chains if chain is not None]
            best = min(chains, key=lambda chain: (len(chain), [step[1] for step in chain], chain))
            self.assertEqual(found.chain, tuple((index, standing.deals[place]) for index, place in best))

    def test_errors(self):
        standing = table()
        x = View.eyes("x")
        self.assert_error(UnknownParty, {"name": "x"}, reason, standing, x, Claim.fact("g", 1), 0)
        self.assert_error(UnknownFact, {"name": "g"}, reason, standing, F, Claim.fact("g", 1), 0)
        self.assert_error(UnknownFact, {"name": "g"}, reason, standing, View.value("g"), Claim.fact("h", 1), 0)
        self.assert_error(UnknownDeal, {"deal": 0}, reason, standing, F, C, 0)
        for view in (F, View.whether(C), View.when(C, A), View.worth("a", [])):
            self.assert_error(NotGrounded, {"index": 0}, reason, standing, view, C, 1)

    def test_long_chain(self):
        standing = Standing(2000).with_party("a", [deal // 2 for deal in range(2000)])
        standing = standing.with_party("b", [(deal + 1) // 2 for deal in range(2000)])
        standing = standing.with_fact("f", [1] * 1999 + [0])
        found = reason(standing, A | B, C, 0)
        self.assertEqual(found.chain, tuple((deal % 2, deal + 1) for deal in range(1999)))


class NamesTest(Fails, unittest.TestCase):
    def test_names(self):
        view = View.worth("z", [(1, Claim.fact("g", 1)), (2, Claim.knows("b", C))], seen=View.eyes("y") & View.value("a"))
        self.assertEqual(view_names(view), (("b", "y", "z"), ("a", "f", "g")))
        claim = Claim.weighs("z", A | A, [(1, ~Claim.fact("g", 1))]) & Claim.known(B & F, C | C)
        self.assertEqual(claim_names(claim), (("a", "b", "z"), ("f", "g")))
        self.assertEqual(claim_names(Claim.always()), ((), ()))
        self.assertEqual(view_names(F), ((), ("f",)))
        self.assertEqual(view_names(View.when(C, View.whether(Claim.knows("f", C)))), (("f",), ("f",)))
        self.assertEqual(view_names(View.pooled([View.eyes(name) for name in ("b", "a10", "a9", "a", "b")])),
                         (("a", "a10", "a9", "b"), ()))

    def test_against_written_parts(self):
        chance = random.Random(18)
        for _ in range(200):
            view = random_view(chance, 3)
            parties, facts = view_names(view)
            self.assertEqual(list(parties), sorted(set(parties)))
            self.assertEqual(list(facts), sorted(set(facts)))
            for name in "abc":
                self.assertIs(name in parties, f"'eyes', '{name}'" in str(view.parts)
                              or f"'worth', '{name}'" in str(view.parts) or f"'weighs', '{name}'" in str(view.parts))
            for name in "fg":
                self.assertIs(name in facts, f"'value', '{name}'" in str(view.parts)
                              or f"'fact', '{name}'" in str(view.parts))
            self.assertEqual(claim_names(Claim.always() & Claim.fact("h", 0)), ((), ("h",)))


if __name__ == "__main__":
    unittest.main()
