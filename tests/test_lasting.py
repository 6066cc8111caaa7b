"""Points 118 and 119: customs that deeds save, and customs that last."""

import random
import time
import unittest

from manysights.claims import Claim
from manysights.customs import keeps_customs
from manysights.deeds import Deed
from manysights.doing import after
from manysights.errors import BadName, NotPlain, UnknownParty
from manysights.lasting import breaking_standing, lasting
from manysights.meanings import sight_of
from manysights.standings import Standing
from manysights.views import View
from tests.helpers import NOT_PLAIN, NO_NAMES, Fails, random_plain, random_plain_deed, random_standing, small_standings

A, B, C = View.eyes("a"), View.eyes("b"), View.eyes("c")
BOTH = ["a", "b"]


def keeping_standing(random, parties, customs):
    """Return a random standing that keeps the customs."""
    standing = random_standing(random, most=8, parties=parties, facts="", weights=False)
    while not keeps_customs(standing, customs):
        for view, party in customs:
            sight = standing.sight(party) | sight_of(standing, view)
            rest = Standing(max(standing.deals) + 1).only(standing.deals)
            for name in standing.parties:
                rest = rest.with_party(name, (sight if name == party else standing.sight(name)).marks)
            standing = rest
    return standing


class BreakingTest(Fails, unittest.TestCase):
    def check(self, customs, deed, custom, parties):
        """Check the words of the point where a standing is returned; return whether there is none."""
        found = breaking_standing(customs, deed, custom, parties=parties)
        if found is not None:
            self.assert_well_formed(found)
            self.assertEqual(sorted(found.parties), sorted(parties))
            self.assertIs(keeps_customs(found, customs), True)
            self.assertIs(keeps_customs(after(found, deed), [custom]), False)
        return found is None

    def test_examples(self):
        custom = (A, "b")
        self.assertTrue(self.check([custom], Deed.announce(B), custom, BOTH))
        self.assertTrue(self.check([custom], Deed.show([("a", B)]), custom, BOTH))
        self.assertFalse(self.check([], Deed.row([]), custom, BOTH))
        self.assertTrue(self.check([], Deed.show([("a", B)]), custom, BOTH))
        self.assertFalse(self.check([custom], Deed.show([("b", C)]), custom, ["a", "b", "c"]))
        self.assertTrue(self.check([custom], Deed.show([("b", A)]), custom, BOTH))
        self.assertFalse(self.check([custom], Deed.forget("a", C), custom, ["c", "b", "a"]))
        self.assertTrue(self.check([custom], Deed.forget("a", A | B), custom, ["c", "b", "a"]))
        self.assertTrue(self.check([custom], Deed.forget("b", A), custom, BOTH))

    def test_in_all_small_standings(self):
        chance = random.Random(118)
        count = [0, 0]
        for _ in range(100):
            customs = [(random_plain(chance, chance.randint(1, 2), "ab"), chance.choice("ab"))
                       for _ in range(chance.randint(0, 2))]
            custom = chance.choice(customs + [(random_plain(chance, 2, "ab"), chance.choice("ab"))])
            deed = random_plain_deed(chance, 2, "ab")
            found = self.check(customs, deed, custom, BOTH)
            count[found] += 1
            if found:
                for standing in small_standings("ab", 4):
                    if keeps_customs(standing, customs):
                        self.assertTrue(keeps_customs(after(standing, deed), [custom]))
        self.assertGreater(min(count), 10)

    def test_random(self):
        chance = random.Random(119)
        count = [0, 0]
        for _ in range(250):
            names = "abcd"
            customs = [(random_plain(chance, chance.randint(1, 3), names), chance.choice(names))
                       for _ in range(chance.randint(0, 4))]
            custom = chance.choice(customs + [(random_plain(chance, 2, names), chance.choice(names))])
            deed = Deed.row([random_plain_deed(chance, 2, names) for _ in range(chance.randint(1, 2))])
            found = self.check(customs, deed, custom, chance.sample(names, 4))
            count[found] += 1
            for _ in range(3 if found else 0):
                standing = keeping_standing(chance, names, customs)
                self.assertTrue(keeps_customs(after(standing, deed), [custom]))
        self.assertGreater(min(count), 40)

    def test_errors(self):
        fine, bad = Deed.announce(View.eyes("q")), Deed.call(Claim.always())
        for view in NOT_PLAIN:
            for customs, deed, custom in (([(A, "z"), (view, "a")], fine, (A, "a")), ([], fine, (view, "a")),
                                          ([], Deed.announce(view), (A, "a")), ([], bad, (A, "a"))):
                self.assert_error(NotPlain, {}, breaking_standing, customs, deed, custom, parties=["B"])
            self.assert_error(NotPlain, {}, lasting, [(A, "z"), (view, "a")], [], parties=["B"])
            self.assert_error(NotPlain, {}, lasting, [(A, "z")], [fine, Deed.forget("z", view)], parties=["B"])
        for name in NO_NAMES:
            self.assert_error(BadName, {"name": name}, breaking_standing, [(A, "z")], fine, (A, "b"),
                              parties=["a", name, "B"])
            self.assert_error(BadName, {"name": name}, lasting, [(A, "z")], [fine], parties=["a", name])
        given = [(View.eyes("r"), "s"), (View.eyes("t"), "a")]
        for known, name in (("a", "r"), ("ra", "s"), ("rsa", "t"), ("rsta", "q"), ("rstaq", "u"), ("rstaqu", "v")):
            self.assert_error(UnknownParty, {"name": name}, breaking_standing, given, fine, (View.eyes("u"), "v"),
                              parties=list(known))
        for known, name in (("a", "r"), ("ra", "s"), ("rsa", "t"), ("rsta", "q"), ("rstaq", "u")):
            self.assert_error(UnknownParty, {"name": name}, lasting, given, [fine, Deed.forget("u", A)],
                              parties=list(known))


class LastingTest(Fails, unittest.TestCase):
    def test_examples(self):
        customs = [(A, "b"), (B, "c")]
        found = lasting(customs, [], parties=["a", "b", "c"])
        self.assertEqual((found.kept, found.falls), ((0, 1), ()))
        # Without the second custom the first one is no longer saved: b is shown more than a sees.
        deeds = [Deed.show([("b", C)]), Deed.show([("c", A)])]
        found = lasting(customs, deeds, parties=["a", "b", "c"])
        self.assertEqual((found.kept, found.falls), ((), ((1, 1, 1), (2, 0, 0))))
        found = lasting([(A, "b"), (A, "b"), (A, "a")], [Deed.row([]), Deed.show([("b", C)])], parties=["c", "a", "b"])
        self.assertEqual((found.kept, found.falls), ((2,), ((1, 0, 1), (1, 1, 1))))
        found = lasting([], [Deed.announce(A)], parties=["a"])
        self.assertEqual((found.kept, found.falls), ((), ()))

    def test_against_the_words(self):
        chance = random.Random(120)
        longest, kept = 0, 0
        for _ in range(300):
            names = ["a", "b", "c"]
            customs = [(random_plain(chance, chance.choice([1, 1, 2, 3])), chance.choice(names))
                       for _ in range(chance.randint(0, 4))]
            deeds = [random_plain_deed(chance, 2) for _ in range(chance.randint(0, 3))]
            left, falls, count = list(range(len(customs))), [], 0
            while True:
                count += 1
                under = [customs[index] for index in left]
                fallen = []
                for index in left:
                    for place, deed in enumerate(deeds):
                        if breaking_standing(under, deed, customs[index], parties=names) is not None:
                            fallen.append((count, index, place))
                            break
                left = [index for index in left if index not in [fall[1] for fall in fallen]]
                falls.extend(fallen)
                if not fallen:
                    break
            found = lasting(customs, deeds, parties=names)
            self.assertEqual((found.kept, found.falls), (tuple(left), tuple(falls)))
            longest, kept = max(longest, count), kept + len(left)
            for _ in range(3):
                standing = keeping_standing(chance, names, [customs[index] for index in left])
                for deed in [chance.choice(deeds) for _ in range(3) if deeds]:
                    standing = after(standing, deed)
                    self.assertTrue(keeps_customs(standing, [customs[index] for index in left]))
        self.assertGreater(longest, 2)
        self.assertGreater(kept, 50)

    def test_largest(self):
        start = time.time()
        chance = random.Random(121)
        names = list("abcdef")
        for _ in range(6):
            customs = [(random_plain(chance, 5, names), chance.choice(names)) for _ in range(4)]
            deeds = [Deed.forget(chance.choice(names), random_plain(chance, 2, names))
                     >> Deed.announce(random_plain(chance, 2, names)) for _ in range(3)]
            found = lasting(customs, deeds, parties=names)
            self.assertEqual(len(found.kept) + len(found.falls), 4)
            for deed in deeds:
                broken = breaking_standing(customs, deed, customs[0], parties=names)
                if broken is not None:
                    self.assertFalse(keeps_customs(after(broken, deed), customs[:1]))
        self.assertLess(time.time() - start, 20)


if __name__ == "__main__":
    unittest.main()
