"""Points 18 and 96 to 98: teams that act without talk."""

import itertools
import random
import time
import unittest

from manysights.claims import Claim
from manysights.errors import UnknownFact, UnknownParty
from manysights.meanings import holds
from manysights.standings import Standing
from manysights.teams import is_forcing, is_rule, team_rule
from tests.helpers import Fails, random_claim, random_standing

ALL, ONE, TWO = Claim.always(), Claim.fact("f", 1), Claim.fact("f", 2)


def table():
    """Return a standing with gaps: a sees two cells, b sees three."""
    made = Standing(8).only([0, 3, 4, 7]).with_fact("f", [0, 1, 2, 1])
    return made.with_party("a", [0, 0, 1, 1]).with_party("b", [0, 1, 1, 2])


def act_at(standing, rule, name, deal):
    """Return what a party does at a deal."""
    return dict(rule)[name][standing.sight(name).marks[standing.position(deal)]]


def plain_meets(standing, demands, rule):
    """Tell whether a rule meets the demands, by the words of point 96."""
    return all(any(act_at(standing, rule, name, deal) == act for name, act in (side, other))
               for claim, side, other in demands for deal in standing if holds(standing, claim, deal))


def all_rules(standing):
    """Yield all rules in their order."""
    counts = [len(standing.sight(name).cells) for name in standing.parties]
    for acts in itertools.product((0, 1), repeat=sum(counts)):
        rows, place = [], 0
        for count in counts:
            rows.append(acts[place:place + count])
            place += count
        yield tuple(zip(standing.parties, rows))


def plain_forces(standing, demands, one, two):
    """Tell whether a choice forces another one, by the words of point 97."""
    for claim, side, other in demands:
        for place, deal in enumerate(standing):
            if holds(standing, claim, deal):
                for first, second in ((side, other), (other, side)):
                    if (first[0], 1 - first[1]) == (one[0], one[2]) and tuple(second) == (two[0], two[2]):
                        if standing.sight(one[0]).marks[place] == one[1] and standing.sight(
                                two[0]).marks[place] == two[1]:
                            return True
    return False


def plain_forcing(standing, demands, ring):
    """Tell whether this is a ring as point 97 describes it."""
    ring = [tuple(choice) for choice in ring]
    if not ring or any(len(choice) != 3 for choice in ring) or ring[0] != ring[-1]:
        return False
    if (ring[0][0], ring[0][1], 1 - ring[0][2]) not in ring:
        return False
    if any(name not in standing.parties for name, _, _ in ring):
        return False
    return all(plain_forces(standing, demands, one, two) for one, two in zip(ring, ring[1:]))


def random_demands(chance, parties="ab", most=6):
    """Return random demands."""
    demands = []
    for _ in range(chance.randint(0, most)):
        claim = chance.choice([ALL, ONE, TWO, random_claim(chance, 1, parties)])
        sides = [[chance.choice(parties), chance.randint(0, 1)] for _ in range(2)]
        if chance.random() < 0.2:
            sides[1] = sides[0]
        demands.append((claim, *sides))
    return demands


class TeamsTest(Fails, unittest.TestCase):
    def check(self, standing, demands):
        """Check team_rule against a walk over all rules, and return what it returns."""
        first = next((rule for rule in all_rules(standing) if plain_meets(standing, demands, rule)), None)
        found = team_rule(standing, demands)
        self.assertEqual(found.rule, first)
        self.assert_tuples((found.rule, found.ring))
        if first is None:
            self.assertTrue(plain_forcing(standing, demands, found.ring))
            self.assertIs(is_forcing(standing, demands, found.ring), True)
        else:
            self.assertIsNone(found.ring)
            self.assertIs(is_rule(standing, demands, found.rule), True)
        return found

    def test_examples(self):
        self.assertEqual(self.check(table(), []).rule, (("a", (0, 0)), ("b", (0, 0, 0))))
        self.assertEqual(self.check(table(), [(ONE, ("a", 1), ["b", 1])]).rule, (("a", (0, 0)), ("b", (0, 1, 1))))
        found = self.check(table(), [(ONE, ("a", 1), ("a", 1)), (ALL, ("a", 0), ("b", 1))])
        self.assertEqual(found.rule, (("a", (1, 1)), ("b", (1, 1, 1))))
        self.assertEqual(self.check(table(), [(TWO, ("a", 1), ("a", 1))]).rule, (("a", (0, 1)), ("b", (0, 0, 0))))
        self.assertEqual(self.check(table(), [(ALL, ("a", 1), ("a", 0))]).rule, (("a", (0, 0)), ("b", (0, 0, 0))))
        found = self.check(table(), [(ONE, ("b", 1), ("b", 1)), (TWO, ("b", 0), ("b", 0))])
        self.assertIsNone(found.rule)
        self.assertEqual(len(found.ring), 3)
        self.assertEqual(self.check(Standing(3), []).rule, ())
        # The parties must choose otherwise in turns along a chain of cells, and cannot around.
        apart = [(ALL, ("a", 0), ("b", 0)), (ALL, ("a", 1), ("b", 1))]
        self.assertEqual(self.check(table(), apart).rule, (("a", (0, 0)), ("b", (1, 1, 1))))
        around = Standing(3).with_party("a", [0, 0, 1]).with_party("b", [0, 1, 1]).with_party("c", [0, 1, 0])
        ring = [(ALL, (one, act), (two, act)) for one, two in ("ab", "bc", "ca") for act in (0, 1)]
        self.assertIsNone(self.check(around, ring).rule)

    def test_against_all_rules(self):
        chance = random.Random(97)
        count = {True: 0, False: 0}
        for _ in range(700):
            parties = chance.choice(["ab", "abc", "b"])
            standing = random_standing(chance, most=5, parties=parties)
            while sum(len(standing.sight(name).cells) for name in parties) > 9:
                standing = random_standing(chance, most=5, parties=parties)
            count[self.check(standing, random_demands(chance, parties)).rule is None] += 1
        self.assertGreater(min(count.values()), 80)

    def test_is_rule(self):
        demands = [(ONE, ("a", 1), ["b", 1]), (TWO, ("a", 0), ("a", 0))]
        rule = (("a", (1, 0)), ("b", (0, 0, 1)))
        self.assertIs(is_rule(table(), demands, rule), True)
        self.assertIs(is_rule(table(), demands, [[name, list(acts)] for name, acts in rule]), True)
        for spoilt in (
            (), rule[:1], rule + rule, rule[::-1], rule + (("c", ()),), (rule[0], ("c", (0, 0, 1))), (rule[0], ()),
            (("a", (0, 0)), rule[1]), (("a", (1, 1)), rule[1]), (rule[0], ("b", (0, 0, 0))), (("a", (1,)), rule[1]),
            (("a", (1, 0, 0)), rule[1]), (("a", (2, 0)), rule[1]), (("a", (1, -1)), rule[1]), (("a",), rule[1]),
            (("a", (1, 0), 0), rule[1]), (rule[0], ("b", ())), (rule[0], ("", (0, 0, 1))), (("b", (1, 0)), rule[1]),
            (("a", (1, 10**30)), rule[1]),
        ):
            self.assertIs(is_rule(table(), demands, spoilt), False, spoilt)
        self.assertIs(is_rule(Standing(2), [], ()), True)
        chance = random.Random(98)
        count = {True: 0, False: 0}
        for _ in range(300):
            standing = random_standing(chance, most=4, parties="ab")
            demands = random_demands(chance, "ab", 3)
            acts = [[chance.randint(0, 1) for _ in standing.sight(name).cells] for name in "ab"]
            rule = list(zip("ab", acts))
            found = is_rule(standing, demands, rule)
            self.assertIs(found, plain_meets(standing, demands, rule))
            count[found] += 1
        self.assertGreater(min(count.values()), 50)

    def test_is_forcing(self):
        demands = [(ONE, ("b", 1), ("b", 1)), (TWO, ("b", 0), ("b", 0)), (ALL, ("a", 0), ("b", 1))]
        ring = [("b", 1, 0), ["b", 1, 1], ("b", 1, 0)]
        self.assertIs(is_forcing(table(), demands, ring), True)
        self.assertIs(is_forcing(table(), demands, ring[1:] + ring[1:2]), True)
        self.assertIs(is_forcing(table(), demands, ring + ring[1:]), True)
        for spoilt in (
            [], ring[:1], ring[:2], ring[1:], ring + ring, [("b", 0, 0), ("b", 0, 1), ("b", 0, 0)],
            [("b", 1, 0), ("b", 1, 1, 1), ("b", 1, 0)], [("b", 1, 0), ("b", 1), ("b", 1, 0)], [(), (), ()],
            [("q", 1, 0), ("q", 1, 1), ("q", 1, 0)], [("b", 3, 0), ("b", 3, 1), ("b", 3, 0)],
            [("b", -1, 0), ("b", -1, 1), ("b", -1, 0)], [("b", 1, 2), ("b", 1, -1), ("b", 1, 2)],
            [ring[0], ("a", 0, 0), ring[1], ring[0]], [("b", 1, 0), ("b", 1, 10**30), ("b", 1, 0)], [()],
            [("", 0, 0), ("", 0, 1), ("", 0, 0)],
        ):
            self.assertIs(is_forcing(table(), demands, spoilt), False, spoilt)
        self.assertIs(is_forcing(table(), demands[:1], ring), False)
        # No numbers that are not those of a cell and an act stand for another choice.
        for one, two in ((("b", 0, 2), ("b", 0, 3)), (("b", 2, -2), ("b", 2, -1)), (("a", 3, 0), ("a", 3, 1))):
            self.assertIs(is_forcing(table(), demands, [one, two, one]), False)
        last = [(TWO, ("a", act), ("a", act)) for act in (0, 1)]
        self.assertIs(is_forcing(table(), last, [("a", 1, 0), ("a", 1, 1), ("a", 1, 0)]), True)
        self.assertIs(is_forcing(table(), last, [("b", -1, 0), ("b", -1, 1), ("b", -1, 0)]), False)
        # A choice can force itself, but this alone shows nothing.
        itself = [(ALL, ("a", 0), ("a", 1))]
        self.assertIs(is_forcing(table(), itself, [("a", 0, 1), ("a", 0, 1)]), False)

    def test_rings_against_the_words(self):
        chance = random.Random(99)
        count = {True: 0, False: 0}
        for _ in range(1500):
            standing = random_standing(chance, most=4, parties="ab")
            demands = random_demands(chance, "ab")
            ring = team_rule(standing, demands).ring
            if ring is None:
                continue
            for _ in range(4):
                spoilt = [list(choice) for choice in ring]
                kind, place = chance.randint(0, 4), chance.randrange(len(spoilt))
                if kind == 0:
                    spoilt[place][chance.randint(1, 2)] += chance.choice([1, -1])
                elif kind == 1:
                    spoilt[place][0] = chance.choice("abq")
                elif kind == 2:
                    del spoilt[place]
                elif kind == 3:
                    spoilt = spoilt[place:] + spoilt[1:place + 1]
                else:
                    spoilt.insert(place, spoilt[place])
                found = is_forcing(standing, demands, spoilt)
                self.assertIs(found, plain_forcing(standing, demands, spoilt))
                count[found] += 1
        self.assertGreater(min(count.values()), 100)

    def test_errors(self):
        bad = (Claim.fact("x", 1), ("q", 0), ("p", 0))
        for call in (team_rule, lambda *given: is_rule(*given, ()), lambda *given: is_forcing(*given, ())):
            self.assert_error(UnknownFact, {"name": "x"}, call, table(), [(ALL, ("a", 0), ("b", 1)), bad])
            self.assert_error(UnknownParty, {"name": "q"}, call, table(), [(ALL,) + bad[1:], bad])
            self.assert_error(UnknownParty, {"name": "p"}, call, table(), [(ALL, ("a", 0), bad[2]), bad])
            self.assert_error(UnknownParty, {"name": "c"}, call, table(), [(Claim.knows("c", ALL), ("q", 0), ("a", 1))])

    def test_largest(self):
        start = time.time()
        size = 2000
        line = Standing(size).with_fact("f", [0] * (size - 1) + [1])
        for index, name in enumerate("abcdef"):
            line = line.with_party(name, [(deal + index) // 2 for deal in range(size)])
        # Along a chain of all cells: act 0 forces act 0 in the next cell, and the last one must do act 1.
        demands = [(ALL, (one, 1), (two, 0)) for one, two in ("ab", "cd", "ef", "bc", "de")]
        demands += [(ONE, ("f", 1), ("f", 1)), (~ONE, ("a", 0), ("f", 1))]
        found = team_rule(line, demands)
        self.assertIs(is_rule(line, demands, found.rule), True)
        # Both ways around: all do the same, but the ends must not.
        demands = [(ALL, ("a", act), ("b", 1 - act)) for act in (0, 1)]
        demands += [(ONE, ("b", 1), ("b", 1)), (Claim.fact("g", 1), ("a", 0), ("a", 0))]
        made = line.with_fact("g", [1] + [0] * (size - 1))
        found = team_rule(made, demands)
        self.assertGreater(len(found.ring), size)
        self.assertIs(is_forcing(made, demands, found.ring), True)
        wide = Standing(size).with_fact("f", [deal % 10 for deal in range(size)])
        for name in "abcdef":
            wide = wide.with_party(name, range(size))
        demands = [(Claim.fact("f", digit), ("abcdef"[digit % 6], digit % 2), ("fedcba"[digit % 5], 1))
                   for digit in range(8)]
        self.assertIs(is_rule(wide, demands, team_rule(wide, demands).rule), True)
        blind = Standing(size).with_fact("f", [deal % 10 for deal in range(size)])
        for name in "abcdef":
            blind = blind.with_party(name, [0] * size)
        self.assertIs(is_rule(blind, demands, team_rule(blind, demands).rule), True)
        self.assertLess(time.time() - start, 30)


if __name__ == "__main__":
    unittest.main()
