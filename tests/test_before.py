"""Point 43: what will be seen and what will hold after a deed, said before it."""

import random
import time
import unittest

from manysights.before import claim_before, view_before
from manysights.claims import Claim
from manysights.deeds import Deed
from manysights.doing import after, possible_at
from manysights.errors import BadName, UnknownParty
from manysights.listings import restricted
from manysights.meanings import holds, sight_of, where
from manysights.standings import Standing
from manysights.views import View
from tests.helpers import NO_NAMES, Fails, random_claim, random_deed, random_plain, random_plain_deed
from tests.helpers import claim_from, random_standing, random_view, view_from

A, B, F = View.eyes("a"), View.eyes("b"), View.value("f")


def is_plain_parts(parts):
    """Tell whether a view, given by its parts, is plain."""
    return parts[0] == "eyes" or (parts[0] in ("pooled", "common") and all(map(is_plain_parts, parts[1])))


class BeforeTest(Fails, unittest.TestCase):
    def check(self, standing, view, claim, deed, parties):
        """Check the words of the point; return whether the deed can be done."""
        told = view_before(view, deed, parties=parties)
        held = claim_before(claim, deed, parties=parties)
        if view.grounded:
            self.assertIs(told.grounded, True)
        done_at = possible_at(standing, deed)
        if done_at:
            end = after(standing, deed)
            places = [standing.position(deal) for deal in done_at]
            self.assertEqual(restricted(sight_of(standing, told), places), sight_of(end, view))
            here = where(standing, held)
            self.assertEqual(tuple(deal for deal in done_at if deal in here), where(end, claim))
        return bool(done_at)

    def test_against_the_standing_after(self):
        chance = random.Random(43)
        count = 0
        for _ in range(2500):
            parties = chance.choice(["a", "ab", "abc", "abc"])
            listed = chance.sample(parties, len(parties))
            view, claim = random_view(chance, 3, parties), random_claim(chance, 3, parties)
            deed = random_deed(chance, 2, parties)
            if chance.random() < 0.5:
                deed = Deed.row([random_deed(chance, chance.randint(0, 2), parties) for _ in range(chance.randint(2, 4))])
            standing = random_standing(chance, most=6, parties=parties)
            count += self.check(standing, view, claim, deed, listed)
        self.assertGreater(count, 1500)

    def test_each_kind(self):
        standing = Standing(6).with_fact("f", [0, 0, 1, 1, 2, 2]).with_fact("g", [0, 1, 0, 1, 0, 1])
        standing = standing.with_party("b", [0, 1, 1, 2, 2, 2], weights=[1, 2, 3, 4, 5, 6])
        standing = standing.with_party("a", [0, 0, 1, 1, 2, 2], weights=[3, 1, 1, 1, 1, 2])
        zero, one = Claim.fact("f", 0), Claim.fact("g", 1)
        sums = [(2, one), (-1, zero)]
        views = [A, F, View.whether(zero), View.when(one, F), View.worth("b", sums), View.worth("b", sums, seen=A | B),
                 A & F, A | B, View.common([A, B & F]), View.answer("a", one)]
        claims = [Claim.always(), zero, Claim.known(A | B, one), Claim.knows("b", Claim.knows("a", one)), ~one,
                  zero & one, zero | one, Claim.weighs("a", B, sums), Claim.likely("b", one, 2, 3), Claim.gains("a", sums)]
        deeds = [Deed.show([("a", F), ("b", View.value("g")), ("a", B)]), Deed.announce(View.whether(zero)),
                 Deed.call(~zero), Deed.call(Claim.knows("b", ~zero) | one), Deed.exchange("f", "g"),
                 Deed.change([("f", [(zero, 7), (one, "g")]), ("g", [])]), Deed.change([("f", [(Claim.always(), 3)])]),
                 Deed.forget("a", View.value("g")), Deed.forget("b", View.whether(one)), Deed.row([])]
        for deed in deeds + [one >> two for one in deeds for two in deeds]:
            for view, claim in zip(views, claims):
                self.check(standing, view, claim, deed, ["a", "b"])

    def test_plain_views_stay_plain(self):
        chance = random.Random(44)
        for _ in range(300):
            view = random_plain(chance, chance.randint(1, 4))
            told = view_before(view, random_plain_deed(chance, 3), parties=["a", "b", "c"])
            self.assertTrue(is_plain_parts(told.parts))
            self.assertEqual(view_from(told.parts), told)
        alone = view_before(A, Deed.forget("a", A), parties=["a"])
        self.assertTrue(is_plain_parts(alone.parts))
        self.assertEqual(view_from(alone.parts), alone)

    def test_parts_are_those_of_a_view(self):
        chance = random.Random(47)
        for _ in range(200):
            parties = chance.choice(["a", "ab"])
            view, deed = random_view(chance, 2, parties), random_deed(chance, 1, parties)
            told = view_before(view, deed, parties=list(parties))
            self.assertEqual(view_from(told.parts), told)
            claim = random_claim(chance, 2, parties)
            held = claim_before(claim, deed, parties=list(parties))
            self.assertEqual(claim_from(held.parts), held)

    def test_errors(self):
        deed = Deed.announce(View.eyes("c")) >> Deed.forget("d", View.eyes("e"))
        for call, term in ((view_before, View.whether(Claim.knows("b", Claim.fact("q", 1)))),
                           (claim_before, Claim.knows("b", Claim.fact("q", 1)))):
            for name in NO_NAMES:
                self.assert_error(BadName, {"name": name}, call, term, deed, parties=["a", name, "B"])
            self.assert_error(UnknownParty, {"name": "b"}, call, term, deed, parties=["a"])
            self.assert_error(UnknownParty, {"name": "c"}, call, term, deed, parties=("b", "a"))
            self.assert_error(UnknownParty, {"name": "d"}, call, term, deed, parties=["b", "c", "e"])
            self.assert_error(UnknownParty, {"name": "e"}, call, term, deed, parties=["b", "c", "d"])
            call(term, deed, parties=["b", "c", "d", "e"])
        # Facts are not looked at: there is no standing.
        self.assertIsInstance(view_before(F, Deed.exchange("x", "y"), parties=["a"]), View)

    def test_questions_asked_again(self):
        chance = random.Random(45)
        for _ in range(100):
            view, claim, deed = random_view(chance, 3), random_claim(chance, 3), random_deed(chance, 2)
            one = view_before(view, deed, parties=["a", "b", "c"])
            self.assertEqual(one, view_before(view, deed, parties=("a", "b", "c")))
            self.assert_tuples(one.parts)
            held = claim_before(claim, deed, parties=["a", "b", "c"])
            self.assertEqual(held, claim_before(claim, deed, parties=["a", "b", "c"]))
            self.assert_tuples(held.parts)

    def test_largest(self):
        start = time.time()
        names = "abcdef"
        chance = random.Random(46)
        for kind in range(4):
            deeds = []
            for _ in range(4):
                claims = [random_claim(chance, 4, names, "fghijk") for _ in range(4)]
                view = View.pooled([View.whether(claim) for claim in claims] + [View.eyes(name) for name in names])
                deeds.append([Deed.announce(view), Deed.change([(fact, list(zip(claims, "ghijkf"))) for fact in "fghijk"]),
                              Deed.show([(name, view) for name in names for _ in range(3)]),
                              Deed.forget("a", view)][kind])
            claim = Claim.all_of([Claim.known(View.eyes(name), random_claim(chance, 4, names, "fghijk")) for name in names])
            for name in names * 4:
                claim = Claim.knows(name, claim)
            standing = random_standing(chance, most=40, parties=names, facts="fghijk")
            held = claim_before(claim, Deed.row(deeds), parties=names)
            self.assertEqual(held, claim_before(claim, Deed.row(deeds), parties=names))
            end = after(standing, Deed.row(deeds))
            self.assertEqual(where(standing, held), where(end, claim))
            self.assertIs(holds(standing, ~held, standing.deals[0]), not holds(end, claim, standing.deals[0]))
        self.assertLess(time.time() - start, 20)


if __name__ == "__main__":
    unittest.main()
