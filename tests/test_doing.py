"""Points 18, 37 and 38: what deeds do."""

import random
import time
import unittest

from manysights.claims import Claim
from manysights.deeds import Deed
from manysights.doing import after, possible_at
from manysights.effects import is_idle
from manysights.errors import NotPossible, UnknownFact, UnknownParty
from manysights.meanings import sight_of
from manysights.pieces import pieces, piece_of
from manysights.sights import Sight
from manysights.standings import Standing
from manysights.views import View
from tests.helpers import Fails, first_unknown, meant_after, random_deed, random_standing

A, B, F, G = View.eyes("a"), View.eyes("b"), View.value("f"), View.value("g")
YES, NEVER = Claim.always(), ~Claim.always()


def table():
    """Return a standing with gaps, weights and two pieces."""
    made = Standing(8).only([0, 2, 3, 5, 6])
    made = made.with_fact("f", [0, 1, 1, 2, 0]).with_fact("g", [3, 3, 4, 4, 4])
    return made.with_party("a", [0, 0, 1, 2, 2], weights=[1, 2, 3, 4, 5]).with_party("b", [0, 1, 1, 2, 2])


class DoingTest(Fails, unittest.TestCase):
    def check(self, standing, deed):
        end, index = meant_after(standing, deed)
        before = standing.key
        if end is None:
            self.assert_error(NotPossible, {"index": index}, after, standing, deed)
            self.assertEqual(possible_at(standing, deed), ())
        else:
            found = after(standing, deed)
            self.assertEqual(found, end)
            self.assert_well_formed(found)
            self.assertEqual(possible_at(standing, deed), end.deals)
        self.assertEqual(standing.key, before)

    def test_against_the_words(self):
        chance = random.Random(37)
        for _ in range(1200):
            standing = random_standing(chance, most=6)
            self.check(standing, random_deed(chance, chance.randint(0, 2)))

    def test_show(self):
        end = after(table(), Deed.show([["a", F], ["b", View.whether(Claim.fact("g", 4))], ["a", G]]))
        self.assertEqual(end.sight("a"), Sight([0, 1, 2, 3, 4]))
        self.assertEqual(end.sight("b"), Sight([0, 1, 2, 3, 3]))
        self.assertEqual(end.weights("a"), (1, 2, 3, 4, 5))
        self.assertEqual(after(table(), Deed.show([])), table())
        # The lessons mean what they mean before the deed: a does not see through b's new eyes.
        both = after(table(), Deed.show([("b", F & G), ("a", B)]))
        self.assertEqual(both.sight("a"), table().sight("a") & table().sight("b"))

    def test_announce_and_call(self):
        end = after(table(), Deed.announce(F))
        for name in "ab":
            self.assertEqual(end.sight(name), table().sight(name) & sight_of(table(), F))
        end = after(table(), Deed.call(Claim.fact("f", 1)))
        self.assertEqual(end, table().only([2, 3]))
        self.assertEqual(possible_at(table(), Deed.call(NEVER)), ())
        self.assert_error(NotPossible, {"index": 0}, after, table(), Deed.call(NEVER))
        none = Standing(3).with_fact("f", [1, 1, 2])
        self.assertEqual(after(none, Deed.announce(F)), none)

    def test_change(self):
        deed = Deed.change([["f", [(Claim.fact("f", 1), "g"), (Claim.fact("g", 4), 9), (YES, 5)]], ["g", []]])
        self.assertEqual(after(table(), deed).digits("f"), (5, 3, 4, 9, 9))
        self.assertEqual(after(table(), deed).digits("g"), table().digits("g"))
        # All sources are those from before the deed, also in a later setting.
        deed = Deed.change([("f", [(YES, 7)]), ("g", [(YES, "f")])])
        self.assertEqual(after(table(), deed).digits("g"), table().digits("f"))
        swap = after(table(), Deed.exchange("f", "g"))
        self.assertEqual((swap.digits("f"), swap.digits("g")), (table().digits("g"), table().digits("f")))
        self.assertEqual(after(table(), Deed.change([])), table())
        kept = Deed.change([("f", [(NEVER, 1), (Claim.fact("f", 2), 8)])])
        self.assertEqual(after(table(), kept).digits("f"), (0, 1, 1, 8, 0))

    def test_forget(self):
        self.assertEqual(after(table(), Deed.forget("a", A)), table())
        end = after(table(), Deed.forget("a", View.whether(YES)))
        self.assertEqual(end.sight("a"), Sight([0, 0, 0, 1, 1]))
        twice = after(table(), Deed.forget("a", F) >> Deed.forget("a", F))
        self.assertEqual(twice, after(table(), Deed.forget("a", F)))
        self.assertEqual(twice.sight("b"), table().sight("b"))
        # Only what is common to all stays in any case; no other party's knowledge is lost.
        alone = Standing(3).with_party("a", [0, 1, 2])
        self.assertEqual(after(alone, Deed.forget("a", View.whether(YES))), alone)

    def test_rows(self):
        one, two = Deed.announce(F), Deed.call(Claim.fact("f", 1))
        change = Deed.change([("f", [(YES, 3)])])
        self.assertEqual(after(table(), Deed.row([])), table())
        self.assertEqual(possible_at(table(), Deed.row([])), table().deals)
        row = Deed.row([one, Deed.row([change, Deed.row([])]), two])
        self.assert_error(NotPossible, {"index": 2}, after, table(), row)
        self.assertEqual(possible_at(table(), row), ())
        row = Deed.row([Deed.row([one, two]), change])
        self.assertEqual(after(table(), row), after(after(after(table(), one), two), change))
        self.assertEqual(possible_at(table(), row), (2, 3))
        self.assert_error(NotPossible, {"index": 1}, after, table(), two >> Deed.call(NEVER) >> one)

    def test_pieces_do_not_depend_on_each_other(self):
        chance = random.Random(38)
        for _ in range(400):
            standing = random_standing(chance, most=7)
            deed = random_deed(chance, 2)
            where_done = possible_at(standing, deed)
            for piece in pieces(standing):
                here = possible_at(piece, deed)
                self.assertEqual(here, tuple(deal for deal in where_done if deal in piece))
                if here:
                    self.assertEqual(after(standing, deed).only(here), after(piece, deed))
            deal = chance.choice(standing.deals)
            self.assertIs(deal in where_done, deal in possible_at(piece_of(standing, deal), deed))

    def test_names(self):
        deed = Deed.show([("q", View.value("x")), ("z", F)])
        self.assert_error(UnknownParty, {"name": "q"}, after, table(), deed)
        deed = Deed.show([("a", View.value("x")), ("z", F)])
        self.assert_error(UnknownFact, {"name": "x"}, possible_at, table(), deed)
        deed = Deed.change([("f", [(Claim.fact("g", 1), "y"), (Claim.fact("x", 1), 2)]), ("z", [])])
        self.assert_error(UnknownFact, {"name": "y"}, after, table(), deed)
        deed = Deed.change([("f", [(Claim.fact("g", 1), 7), (Claim.fact("x", 1), "y")]), ("z", [])])
        self.assert_error(UnknownFact, {"name": "x"}, after, table(), deed)
        self.assert_error(UnknownFact, {"name": "z"}, after, table(), Deed.change([("f", []), ("z", [])]))
        self.assert_error(UnknownParty, {"name": "z"}, after, table(), Deed.forget("z", View.eyes("y")))
        # Names come before all other errors.
        row = Deed.call(NEVER) >> Deed.announce(View.worth("a", [(1, Claim.knows("c", Claim.fact("h", 1)))]))
        for call in (after, possible_at):
            self.assert_error(UnknownParty, {"name": "c"}, call, table(), row)

    def test_names_of_random_deeds(self):
        chance = random.Random(39)
        count = 0
        for _ in range(600):
            deed = Deed.call(~Claim.always()) >> random_deed(chance, chance.randint(0, 3), "abcd", "fghi")
            standing = random_standing(chance, most=3, parties="abc"[:chance.randint(1, 3)], facts="fgh")
            first = first_unknown(standing, [deed])
            if first is None:
                self.assertEqual(possible_at(standing, deed), ())
            else:
                kind = UnknownParty if first[0] == "P" else UnknownFact
                for call in (after, possible_at, is_idle):
                    self.assert_error(kind, {"name": first[1]}, call, standing, deed)
                count += 1
        self.assertGreater(count, 200)

    def test_largest(self):
        start = time.time()
        size = 2000
        standing = Standing(size)
        for index, name in enumerate("fghijk"):
            standing = standing.with_fact(name, [deal * (index + 3) // 7 % 10 for deal in range(size)])
        for index, name in enumerate("abcdef"):
            standing = standing.with_party(name, [deal // (3 + index) for deal in range(size)],
                                           weights=[1 + deal % 999 for deal in range(size)])
        eyes = [View.eyes(name) for name in "abcdef"]
        claim = Claim.known(View.common(eyes), Claim.fact("f", 1)) | Claim.likely("a", Claim.fact("g", 2), 1, 3)
        for _ in range(50):
            claim = Claim.knows("b", claim | Claim.fact("h", 3))
        deeds = [Deed.announce(View.whether(claim)), Deed.forget("a", View.value("f")), Deed.exchange("f", "g"),
                 Deed.change([("k", [(claim, "f"), (~claim, 3)])]), Deed.show([(name, F) for name in "abcdef"])]
        end = after(standing, Deed.row(deeds))
        self.assertEqual(len(end), size)
        self.assertLess(time.time() - start, 20)


if __name__ == "__main__":
    unittest.main()
