"""Points 18 and 101 to 105: which promises can be kept for sure."""

import itertools
import random
import time
import unittest

from manysights.claims import Claim
from manysights.deeds import Deed
from manysights.doing import after
from manysights.errors import TakenName, UnknownFact, UnknownParty
from manysights.keeping import deposits, is_kept, keeping, with_keeping
from manysights.meanings import holds, where
from manysights.standings import Standing
from manysights.webs import Web
from tests.helpers import Fails, random_claim, random_standing, random_view

ALL, ONE, TWO = Claim.always(), Claim.fact("f", 1), Claim.fact("f", 2)


def table():
    """Return a standing with gaps in which a sees f, and b and c see less."""
    made = Standing(8).only([0, 3, 4, 7]).with_fact("f", [0, 1, 2, 1]).with_party("a", [0, 1, 2, 1])
    return made.with_party("b", [0, 0, 1, 1]).with_party("c", [0, 0, 0, 0])


def enough(standing, web, name, place, is_paid):
    """Tell whether a party can pay at a position, by the words of point 101."""
    deal = standing.deals[place]
    has = dict(web.purses).get(name, 0)
    owes = 0
    for issuer, holder, claim, amount in web.notes:
        if holds(standing, claim, deal):
            owes += amount if issuer == name else 0
            has += amount if holder == name and is_paid(issuer, place) else 0
    return has >= owes


def plain_keeping(standing, web):
    """Return the cells that are left and the falls, by the words of points 101 and 102."""
    sights = {name: standing.sight(name) for name in standing.parties}
    left = [(name, mark) for name in standing.parties for mark in range(len(sights[name].cells))]
    falls, count = [], 0
    while True:
        count += 1
        paid = lambda issuer, place: (issuer, sights[issuer].marks[place]) in left
        dropped = []
        for name, mark in left:
            short = [place for place in sights[name].cells[mark] if not enough(standing, web, name, place, paid)]
            if short:
                dropped.append((count, name, mark, standing.deals[short[0]]))
        if not dropped:
            return left, falls
        falls += dropped
        left = [cell for cell in left if cell not in [fall[1:3] for fall in dropped]]


def plain_is_kept(standing, web, kept):
    """Tell whether kept meets the words of point 102."""
    if [tuple(pair)[:1] for pair in kept] != [(name,) for name in standing.parties]:
        return False
    if any(len(pair) != 2 for pair in kept):
        return False
    listed = {name: set(deals) for name, deals in kept}
    for name in listed:
        if any(deal not in standing for deal in listed[name]):
            return False
        for deal in listed[name]:
            cell = standing.sight(name).cell_of(standing.position(deal))
            if any(standing.deals[place] not in listed[name] for place in cell):
                return False
    paid = lambda issuer, place: standing.deals[place] in listed[issuer]
    return all(enough(standing, web, name, standing.position(deal), paid) for name in listed for deal in listed[name])


def random_web(chance, parties="abc", *, facts=False):
    """Return a random web; with facts=True all claims are fact claims."""
    notes = []
    for _ in range(chance.randint(0, 6)):
        claim = chance.choice([ALL, ONE, ~ONE, TWO, ONE | TWO])
        if not facts and chance.random() < 0.3:
            claim = random_claim(chance, 1, parties)
        notes.append([chance.choice(parties), chance.choice(parties), claim, chance.randint(1, 5)])
    names = chance.sample(parties, chance.randint(0, len(parties)))
    return Web(notes, [(name, chance.randint(0, 5)) for name in names])


class KeepingTest(Fails, unittest.TestCase):
    def check(self, standing, web):
        """Check keeping against a plain walk, and return it."""
        found = keeping(standing, web)
        left, falls = plain_keeping(standing, web)
        kept = []
        for name in standing.parties:
            sight = standing.sight(name)
            kept.append((name, tuple(deal for place, deal in enumerate(standing) if (name, sight.marks[place]) in left)))
        self.assertEqual(found.kept, tuple(kept))
        self.assertEqual(found.falls, tuple(falls))
        self.assertIs(found.sure, not falls)
        self.assert_tuples((found.kept, found.falls))
        self.assertIs(is_kept(standing, web, found.kept), True)
        return found

    def test_examples(self):
        found = self.check(table(), Web([], []))
        self.assertEqual((found.sure, found.kept[2]), (True, ("c", (0, 3, 4, 7))))
        # b must pay where it cannot see that a pays.
        web = Web([("a", "b", ONE, 5), ("b", "c", ONE, 5), ("c", "a", TWO, 1)], [("a", 4)])
        found = self.check(table(), web)
        self.assertEqual(found.falls, ((1, "a", 1, 3), (1, "c", 0, 4), (2, "b", 0, 3), (2, "b", 1, 7)))
        self.assertEqual(found.kept, (("a", (0, 4)), ("b", ()), ("c", ())))
        self.assertEqual(self.check(table(), Web(web.notes, [("a", 5), ("c", 1)])).falls, ())
        # A party that owes itself has what it owes.
        self.assertEqual(self.check(table(), Web([("a", "a", ALL, 99)], [])).falls, ())
        found = self.check(table(), Web([("a", "a", ALL, 99), ("a", "b", ONE, 1)], []))
        self.assertEqual(found.falls, ((1, "a", 1, 3),))
        # Promises in a ring are kept if all are.
        ring = Web([("a", "b", ALL, 3), ("b", "c", ALL, 3), ("c", "a", ALL, 3)], [])
        self.assertIs(self.check(table(), ring).sure, True)
        self.assertIs(self.check(table(), Web(ring.notes + (("c", "a", TWO, 1),), [])).sure, False)

    def test_against_plain_walks(self):
        chance = random.Random(101)
        rounds = {}
        for _ in range(400):
            standing = random_standing(chance)
            found = self.check(standing, random_web(chance))
            rounds[max([fall[0] for fall in found.falls], default=0)] = True
        self.assertGreater(len(rounds), 3)

    def test_greatest_set(self):
        chance = random.Random(102)
        for _ in range(60):
            standing = random_standing(chance, most=3, parties="ab")
            web = random_web(chance, "ab")
            left, _ = plain_keeping(standing, web)
            cells = [(name, mark) for name in "ab" for mark in range(len(standing.sight(name).cells))]
            for choice in itertools.product((True, False), repeat=len(cells)):
                chosen = [cell for cell, taken in zip(cells, choice) if taken]
                kept = [(name, [standing.deals[place] for other, mark in chosen if other == name
                                for place in standing.sight(name).cells[mark]]) for name in "ab"]
                found = is_kept(standing, web, kept)
                self.assertIs(found, plain_is_kept(standing, web, kept))
                if found:
                    self.assertLessEqual(set(chosen), set(left))

    def test_is_kept(self):
        web = Web([("a", "b", ONE, 5), ("b", "c", ONE, 5)], [("a", 5)])
        kept = (("a", (0, 3, 4, 7)), ("b", (0, 3, 4, 7)), ("c", (0, 3, 4, 7)))
        for fine in (
            kept, (("a", [7, 3, 0, 4, 4, 3]), ["b", (7, 4, 0, 3, 0)], ("c", [])), (("a", ()), ("b", ()), ("c", ())),
            (("a", (3, 7)), ("b", (0, 3)), ("c", ())), (("a", (7, 3)), ("b", (0, 3, 4, 7)), ("c", ())),
        ):
            self.assertIs(is_kept(table(), web, fine), True, fine)
        for wrong in (
            (), kept[:2], kept + kept, kept[::-1], (kept[0], kept[2], kept[1]), kept[:2] + (("q", ()),),
            kept[:2] + (("c",),), kept[:2] + (("c", (), ()),), kept[:2] + ((),), kept + (("d", ()),),
            # Parts of cells, and deals that are not open.
            (("a", (3,)), kept[1], kept[2]), (("a", ()), ("b", (0, 4)), ("c", ())), kept[:2] + (("c", (0, 3, 4)),),
            kept[:2] + (("c", (0, 3, 4, 7, 5)),), kept[:2] + (("c", (-1,)),), kept[:2] + (("c", (10**30,)),),
            # Nobody pays b at the deals 3 and 7.
            (("a", (0, 4)), kept[1], kept[2]), (("a", ()), ("b", (4, 7)), ("c", ())),
        ):
            self.assertIs(is_kept(table(), web, wrong), False, wrong)
        self.assertIs(is_kept(Standing(2), Web([], []), ()), True)
        # Who has no purse but owes itself alone keeps its promise if it is listed.
        self.assertIs(is_kept(table(), Web([("a", "a", ALL, 9)], []), (("a", (3, 7)), ("b", ()), ("c", ()))), True)

    def test_is_kept_against_the_words(self):
        chance = random.Random(103)
        count = {True: 0, False: 0}
        for _ in range(600):
            standing, web = random_standing(chance, parties="ab"), random_web(chance, "ab")
            kept = [[name, list(deals)] for name, deals in keeping(standing, web).kept]
            for _ in range(3):
                row = chance.choice(kept)
                if row[1] and chance.random() < 0.5:
                    row[1] = [deal for deal in row[1] if deal != row[1][0]]
                else:
                    row[1].insert(0, chance.choice(standing.deals))
                found = is_kept(standing, web, kept)
                self.assertIs(found, plain_is_kept(standing, web, kept))
                count[found] += 1
        self.assertGreater(min(count.values()), 100)

    def test_with_keeping(self):
        web = Web([("a", "b", ONE, 5), ("b", "c", ONE, 5)], [("a", 4)])
        made = with_keeping(table(), web)
        self.assertEqual(made.facts, ("f", "a", "b", "c"))
        self.assertEqual([made.digits(name) for name in "abc"], [(1, 0, 1, 0), (0, 0, 0, 0), (1, 1, 1, 1)])
        self.assertEqual(made.without_fact("a").without_fact("b").without_fact("c"), table())
        self.assertEqual(where(made, Claim.knows("a", Claim.fact("a", 1))), (0, 4))
        self.assertEqual(where(made, Claim.knows("b", Claim.fact("a", 1))), ())
        self.assert_well_formed(made)
        taken = table().with_fact("c", [0] * 4).with_fact("b", [0] * 4)
        self.assert_error(TakenName, {"name": "b"}, with_keeping, taken, web)
        self.assert_error(UnknownParty, {"name": "q"}, with_keeping, taken, Web([], [("q", 1)]))
        self.assertEqual(with_keeping(Standing(2), Web([], [])), Standing(2))

    def test_deposits(self):
        web = Web([("a", "b", ONE, 5), ("b", "c", ALL, 7), ("c", "c", ALL, 3)], [("a", 2), ("c", 9)])
        self.assertEqual(deposits(table(), web), (("a", 3), ("b", 7), ("c", 0)))
        chance = random.Random(104)
        for _ in range(200):
            standing, web = random_standing(chance), random_web(chance)
            found = deposits(standing, web)
            self.assert_tuples(found)
            self.assertEqual([name for name, _ in found], list(standing.parties))
            purses = dict(web.purses)
            raised = {name: purses.get(name, 0) + number for name, number in found}
            self.assertIs(keeping(standing, Web(web.notes, list(raised.items()))).sure, True)
            for name, number in found:
                if number:
                    less = dict(raised)
                    less[name] -= 1
                    dropped = self.check(standing, Web(web.notes, list(less.items()))).falls
                    self.assertIn(name, [fall[1] for fall in dropped])

    def test_shows_break_nothing(self):
        chance = random.Random(105)
        for _ in range(150):
            standing, web = random_standing(chance), random_web(chance, facts=True)
            lessons = [(chance.choice("abc"), random_view(chance, 1)) for _ in range(2)]
            for deed in (Deed.show(lessons), Deed.announce(random_view(chance, 1))):
                later = dict(keeping(after(standing, deed), web).kept)
                for name, deals in keeping(standing, web).kept:
                    self.assertLessEqual(set(deals), set(later[name]))

    def test_errors(self):
        x = Claim.fact("x", 1)
        for call in (keeping, lambda *given: is_kept(*given, ()), with_keeping, deposits):
            self.assert_error(UnknownParty, {"name": "q"}, call, table(), Web([("a", "b", ALL, 1), ("q", "p", x, 1)], [("r", 1)]))
            self.assert_error(UnknownParty, {"name": "p"}, call, table(), Web([("a", "p", x, 1), ("q", "p", x, 1)], [("r", 1)]))
            self.assert_error(UnknownFact, {"name": "x"}, call, table(), Web([("a", "b", x, 1), ("q", "p", x, 1)], [("r", 1)]))
            self.assert_error(UnknownParty, {"name": "r"}, call, table(), Web([("a", "b", ALL, 1)], [("a", 1), ("r", 1), ("s", 1)]))

    def test_largest(self):
        start = time.time()
        size = 2000
        line = Standing(size).with_fact("f", [0] * (size - 1) + [1])
        line = line.with_party("a", [deal // 2 for deal in range(size)])
        line = line.with_party("b", [(deal + 1) // 2 for deal in range(size)])
        for name in "cdeg":
            line = line.with_party(name, [deal // 20 for deal in range(size)])
        # One cell falls after the other, along the whole line.
        notes = [("a", "b", ALL, 9), ("b", "a", ALL, 9), ("b", "c", ONE, 1)] + [("c", "d", ALL, 1)] * 7
        found = keeping(line, Web(notes, [("c", 7)]))
        self.assertEqual(found.falls[-1][0], 2001)
        self.assertEqual(len([fall for fall in found.falls if fall[1] in "ab"]), 2001)
        self.assertIs(is_kept(line, Web(notes, [("c", 7)]), found.kept), True)
        self.assertEqual(deposits(line, Web(notes, [("c", 7)])), tuple((name, int(name == "b")) for name in "abcdeg"))
        self.assertEqual(len(with_keeping(line, Web(notes, [("c", 7)])).facts), 7)
        self.assertLess(time.time() - start, 10)


if __name__ == "__main__":
    unittest.main()
