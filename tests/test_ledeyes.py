"""Points 44 to 48: what plain deeds do in every standing."""

import itertools
import random
import time
import unittest

from manysights.before import view_before
from manysights.chains import tells
from manysights.claims import Claim
from manysights.deeds import Deed
from manysights.doing import after
from manysights.errors import BadName, NotPlain, UnknownParty
from manysights.ledeyes import always_same, fewest_deeds, led_eyes, tells_after
from manysights.meanings import sight_of
from manysights.orders import always_alike, always_tells
from manysights.shortest import is_shortest, shortest
from manysights.standings import Standing
from manysights.views import View
from tests.helpers import NOT_PLAIN, NO_NAMES, Fails, random_plain, random_plain_deed, random_standing, small_standings

A, B, C = View.eyes("a"), View.eyes("b"), View.eyes("c")
NOT_PLAIN_DEEDS = [Deed.call(Claim.always()), Deed.change([]), Deed.row([Deed.row([]), Deed.exchange("f", "g")]),
                   Deed.row([Deed.announce(A), Deed.row([Deed.call(Claim.always())])])]
NOT_PLAIN_DEEDS += [make(view) for view in NOT_PLAIN for make in (
    Deed.announce, lambda view: Deed.show([("q", A), ("q", view)]), lambda view: Deed.forget("q", view))]


def shaken(standing, order):
    """Return the standing with its parties in another order."""
    made = Standing(len(standing))
    for name in order:
        made = made.with_party(name, standing.sight(name).marks)
    return made


class LedEyesTest(Fails, unittest.TestCase):
    def test_examples(self):
        found = led_eyes(Deed.announce(A), parties=["b", "a", "c"])
        self.assertEqual(found, (("b", A & B), ("a", A), ("c", A & C)))
        found = led_eyes(Deed.show([("b", A), ("b", C), ("a", C)]), parties=("a", "b", "c"))
        self.assertEqual(found, (("a", A & C), ("b", View.pooled([A, B, C])), ("c", C)))
        found = led_eyes(Deed.forget("a", A), parties=["a", "b"])
        self.assertEqual(found, (("a", A), ("b", B)))
        found = led_eyes(Deed.forget("a", B), parties=["a", "b"])
        self.assertEqual(found, (("a", A | B), ("b", B)))
        self.assertEqual(led_eyes(Deed.row([]), parties=["a"]), (("a", A),))
        found = led_eyes(Deed.announce(A) >> Deed.forget("b", B), parties=["a", "b"])
        self.assertEqual(found, (("a", A), ("b", A & B)))

    def test_against_sights_after(self):
        chance = random.Random(45)
        for _ in range(400):
            parties = chance.choice(["a", "ab", "abc", "abcd"])
            deed = Deed.row([random_plain_deed(chance, 3, parties) for _ in range(chance.randint(0, 3))])
            listed = chance.sample(parties, len(parties))
            found = led_eyes(deed, parties=listed)
            self.assert_tuples(found)
            self.assertEqual([name for name, _ in found], listed)
            for name, view in found:
                self.assertTrue(is_shortest(view))
                self.assertEqual(view, shortest(view_before(View.eyes(name), deed, parties=listed)))
            for _ in range(4):
                standing = random_standing(chance, most=8, parties=parties)
                end = after(standing, deed)
                for name, view in found:
                    self.assertEqual(sight_of(standing, view), end.sight(name))

    def test_errors(self):
        view = Deed.announce(View.eyes("q"))
        for deed in NOT_PLAIN_DEEDS:
            self.assert_error(NotPlain, {}, led_eyes, deed, parties=["a", "B"])
            self.assert_error(NotPlain, {}, always_same, view, deed, parties=["a", "B"])
            self.assert_error(NotPlain, {}, always_same, deed, view, parties=["a", "B"])
            self.assert_error(NotPlain, {}, fewest_deeds, [view, deed], parties=["a", "B"])
            self.assert_error(NotPlain, {}, tells_after, deed, A, View.eyes("q"), parties=["B"])
        for other in NOT_PLAIN:
            self.assert_error(NotPlain, {}, tells_after, view, other, A, parties=["B"])
            self.assert_error(NotPlain, {}, tells_after, view, A, other, parties=["B"])
        row = Deed.show([("r", View.eyes("s"))]) >> view
        for name in NO_NAMES:
            given = {"parties": ["a", name, "B"]}
            self.assert_error(BadName, {"name": name}, led_eyes, row, **given)
            self.assert_error(BadName, {"name": name}, always_same, row, row, **given)
            self.assert_error(BadName, {"name": name}, fewest_deeds, [row], **given)
            self.assert_error(BadName, {"name": name}, tells_after, row, A, B, **given)
        self.assert_error(UnknownParty, {"name": "r"}, led_eyes, row, parties=["a"])
        self.assert_error(UnknownParty, {"name": "s"}, led_eyes, row, parties=["r"])
        self.assert_error(UnknownParty, {"name": "q"}, led_eyes, row, parties=["r", "s"])
        self.assert_error(UnknownParty, {"name": "q"}, always_same, view, row, parties=["a"])
        self.assert_error(UnknownParty, {"name": "r"}, always_same, row, view, parties=["a"])
        self.assert_error(UnknownParty, {"name": "q"}, fewest_deeds, [view, row], parties=["a"])
        # The parties of the views come before those of the deed.
        self.assert_error(UnknownParty, {"name": "b"}, tells_after, row, A, B, parties=["a"])
        self.assert_error(UnknownParty, {"name": "a"}, tells_after, row, A, B, parties=["b"])
        self.assert_error(UnknownParty, {"name": "r"}, tells_after, row, A, B, parties=["a", "b"])


class SamenessTest(Fails, unittest.TestCase):
    def check(self, one, two, parties):
        """Check the words of the point; return whether the deeds always have the same effect."""
        found = always_same(one, two, parties=parties)
        left, right = led_eyes(one, parties=parties), led_eyes(two, parties=parties)
        self.assertIs(found.same, left == right)
        if found.same:
            self.assertIsNone(found.party)
            self.assertIsNone(found.standing)
            return True
        for name in parties:
            if name == found.party:
                break
            views = [view_before(View.eyes(name), deed, parties=parties) for deed in (one, two)]
            self.assertTrue(always_alike(*views))
        self.assertEqual(sorted(found.standing.parties), sorted(parties))
        self.assertEqual(found.standing.facts, ())
        self.assertLess(len(found.standing), 100)
        self.assert_well_formed(found.standing)
        ends = [after(found.standing, deed).sight(found.party) for deed in (one, two)]
        self.assertNotEqual(ends[0], ends[1])
        return False

    def test_random_deeds(self):
        chance = random.Random(46)
        count = [0, 0]
        for _ in range(400):
            parties = chance.sample("abcd", chance.randint(1, 4))
            one = Deed.row([random_plain_deed(chance, 3, parties) for _ in range(chance.randint(0, 2))])
            two = Deed.row([random_plain_deed(chance, 3, parties) for _ in range(chance.randint(0, 2))])
            if chance.random() < 0.4:
                two = Deed.row([one, Deed.show([(name, View.eyes(name)) for name in parties])])
            count[self.check(one, two, parties)] += 1
        self.assertGreater(min(count), 100)

    def test_same_in_all_small_standings(self):
        pairs = [(Deed.announce(A) >> Deed.announce(B), Deed.announce(A & B)),
                 (Deed.announce(A) >> Deed.announce(B), Deed.announce(B) >> Deed.announce(A)),
                 (Deed.forget("a", B) >> Deed.announce(B), Deed.announce(B) >> Deed.forget("a", B)),
                 (Deed.announce(A | B), Deed.row([])), (Deed.forget("b", A), Deed.forget("b", A | B)),
                 (Deed.announce(B), Deed.show([("a", B)]))]
        for one, two in pairs:
            same = all(after(standing, one) == after(standing, two) for standing in small_standings("ab", 4))
            self.assertIs(self.check(one, two, ["a", "b"]), same)

    def test_first_party(self):
        one, two = Deed.show([("c", A), ("b", A)]), Deed.show([("a", A)])
        self.assertEqual(always_same(one, two, parties=["a", "b", "c"]).party, "b")
        self.assertEqual(always_same(one, two, parties=["c", "a", "b"]).party, "c")


class FewestTest(Fails, unittest.TestCase):
    def test_examples(self):
        deeds = [Deed.announce(A), Deed.announce(B), Deed.announce(A & B), Deed.forget("a", A)]
        self.assertEqual(fewest_deeds(deeds[:2] + deeds[3:], parties=["a", "b"]), (0, 1))
        self.assertEqual(fewest_deeds(deeds, parties=["b", "a", "c"]), (2,))
        self.assertEqual(fewest_deeds([], parties=["a"]), ())
        idle = [Deed.announce(A | B), Deed.show([("a", A)])]
        self.assertEqual(fewest_deeds(idle, parties=["a", "b"]), ())
        self.assertEqual(fewest_deeds([Deed.announce(A), Deed.announce(A)], parties=["a", "b"]), (0,))

    def test_against_a_walk(self):
        chance = random.Random(47)
        sizes = {}
        for _ in range(150):
            parties = ["a", "b", "c"]
            deeds = [random_plain_deed(chance, 2, parties) for _ in range(chance.randint(0, 4))]
            rows = [row for size in range(len(deeds) + 1) for row in itertools.combinations(range(len(deeds)), size)]
            whole = Deed.row(deeds)
            same = [row for row in rows if always_same(Deed.row([deeds[k] for k in row]), whole, parties=parties).same]
            self.assertEqual(fewest_deeds(deeds, parties=parties), same[0])
            sizes[len(same[0])] = True
        self.assertGreater(len(sizes), 3)


class TellsAfterTest(Fails, unittest.TestCase):
    def test_examples(self):
        both = ["a", "b"]
        self.assertIs(tells_after(Deed.announce(A), B, A, parties=both), True)
        self.assertIs(tells_after(Deed.announce(A), A, B, parties=both), False)
        self.assertIs(tells_after(Deed.forget("a", B), A, A, parties=both), False)
        self.assertIs(tells_after(Deed.forget("a", B), A, A | B, parties=both), True)
        self.assertIs(tells_after(Deed.row([]), A & B, A, parties=both), True)
        # The second view is what it told before the deed, not after it.
        self.assertIs(tells_after(Deed.announce(B), A, A & B, parties=both), True)
        self.assertIs(tells_after(Deed.show([("a", B)]), B, A, parties=both), False)

    def test_random(self):
        chance = random.Random(48)
        count = [0, 0]
        for _ in range(300):
            parties = ["a", "b", "c"]
            deed = random_plain_deed(chance, 3)
            one, two = random_plain(chance, chance.randint(1, 3)), random_plain(chance, chance.randint(1, 2))
            found = tells_after(deed, one, two, parties=parties)
            count[found] += 1
            for _ in range(5):
                standing = random_standing(chance, most=8)
                if found:
                    self.assertTrue(tells(sight_of(after(standing, deed), one), sight_of(standing, two)))
            if not found:
                part = always_tells(shortest(view_before(one, deed, parties=parties)), two).standing
                for name in set(parties) - set(part.parties):
                    part = part.with_party(name, [0] * len(part))
                part = shaken(part, parties)
                self.assertFalse(tells(sight_of(after(part, deed), one), sight_of(part, two)))
        self.assertGreater(min(count), 50)

    def test_largest(self):
        start = time.time()
        chance = random.Random(49)
        names = list("abcdef")
        for kind in range(4):
            deeds = []
            for _ in range(4):
                views = [random_plain(chance, 3, names) for _ in range(6)]
                deeds.append([Deed.announce(views[0]), Deed.forget(chance.choice(names), views[0]),
                              Deed.show(list(zip(names, views))),
                              chance.choice([Deed.announce(views[1]), Deed.forget("a", views[2])])][kind])
            other = Deed.row(deeds[::-1])
            found = always_same(Deed.row(deeds), other, parties=names)
            if not found.same:
                ends = [after(found.standing, deed).sight(found.party) for deed in (Deed.row(deeds), other)]
                self.assertNotEqual(ends[0], ends[1])
                self.assertLess(len(found.standing), 200)
            self.assertLessEqual(len(fewest_deeds(deeds, parties=names)), 4)
            self.assertIs(tells_after(Deed.row(deeds), random_plain(chance, 8, names), View.common(
                [View.eyes(name) for name in names]), parties=names), True)
        self.assertLess(time.time() - start, 20)


if __name__ == "__main__":
    unittest.main()
