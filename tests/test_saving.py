"""Points 18, 99, 105 and 106: tellings that help a team, and tellings that save promises."""

import random
import time
import unittest

from manysights.chains import tells
from manysights.claims import Claim
from manysights.errors import UnknownFact, UnknownParty
from manysights.listings import all_sights
from manysights.meanings import holds
from manysights.saving import saved_in_secret, saving_tellings, team_tellings
from manysights.sights import Sight
from manysights.standings import Standing
from manysights.tellings import finest_tellings
from manysights.webs import Web
from tests.helpers import Fails, random_claim, random_standing
from tests.test_keeping import random_web
from tests.test_teams import all_rules, random_demands
from tests.test_tellings import plain_given_away, plain_told, random_secrets

ALL, ONE, TWO = Claim.always(), Claim.fact("f", 1), Claim.fact("f", 2)


def table():
    """Return a standing with gaps in which b sees nothing."""
    made = Standing(8).only([0, 3, 4, 7]).with_fact("f", [0, 1, 2, 1])
    return made.with_party("a", [0, 1, 2, 1]).with_party("b", [0, 0, 0, 0])


def coarsest(fine):
    """Return those tellings that tell no other one."""
    return tuple(one for one in fine if not any(tells(one, other) and other != one for other in fine))


def plain_helps(standing, hearers, demands, telling):
    """Tell whether some rule meets the demands after a telling, by the words of point 99."""
    end = plain_told(standing, hearers, telling)
    asked = [(place, side, other) for claim, side, other in demands
             for place, deal in enumerate(standing) if holds(standing, claim, deal)]
    for rule in all_rules(end):
        acts = {name: [row[mark] for mark in end.sight(name).marks] for name, row in rule}
        if all(acts[side[0]][place] == side[1] or acts[other[0]][place] == other[1] for place, side, other in asked):
            return True
    return False


def plain_saves(standing, hearers, web, reliances, telling):
    """Tell whether a telling saves all reliances, by the words of point 105."""
    end = plain_told(standing, hearers, telling)
    owed = [[holds(standing, claim, deal) for deal in standing] for _, _, claim, _ in web.notes]
    left = {(name, mark) for name in end.parties for mark in end.sight(name).marks}
    changed = True
    while changed:
        dropped = set()
        for name, mark in left:
            for place in end.sight(name).cells[mark]:
                has = dict(web.purses).get(name, 0)
                for (issuer, holder, _, amount), row in zip(web.notes, owed):
                    if row[place]:
                        has -= amount if issuer == name else 0
                        has += amount if holder == name and (issuer, end.sight(issuer).marks[place]) in left else 0
                if has < 0:
                    dropped.add((name, mark))
        left -= dropped
        changed = bool(dropped)
    return all((party, end.sight(party).marks[place]) in left for party, claim in reliances
               for place, deal in enumerate(standing) if holds(standing, claim, deal))


def random_reliances(chance):
    """Return random reliances."""
    return [[chance.choice("ab"), chance.choice([ONE, TWO, ~ONE, ALL, random_claim(chance, 1, "ab")])]
            for _ in range(chance.randint(0, 3))]


class SavingTest(Fails, unittest.TestCase):
    def test_team_examples(self):
        demands = [(ONE, ("b", 1), ("b", 1)), (TWO, ("b", 0), ("b", 0))]
        found = team_tellings(table(), ["b"], demands)
        self.assertEqual([one.marks for one in found], [(0, 0, 1, 0), (0, 1, 0, 1)])
        self.assertEqual(team_tellings(table(), [], demands), ())
        self.assertEqual(team_tellings(table(), ["a"], demands), ())
        self.assertEqual(team_tellings(table(), ("a",), []), (Sight.nothing(4),))
        # The claims mean what they mean before the telling: nobody knew then.
        demands = [(~Claim.knows("b", ONE), ("b", 1), ("b", 1))]
        self.assertEqual(team_tellings(table(), ["b"], demands), (Sight.nothing(4),))
        demands += [(ONE & ~Claim.knows("b", ONE), ("b", 0), ("b", 0))]
        self.assertEqual(team_tellings(table(), ["b"], demands), ())

    def test_teams_against_a_walk(self):
        chance = random.Random(99)
        sizes = {}
        for _ in range(120):
            standing = random_standing(chance, most=4, parties="ab")
            if chance.random() < 0.5:
                standing = standing.without_party("b").with_party("b", [0] * len(standing))
            hearers = chance.choice([[], ["a"], ["b", "b"], ["b", "a"]])
            demands = random_demands(chance, "ab", 4)
            fine = [one for one in all_sights(len(standing)) if plain_helps(standing, hearers, demands, one)]
            found = team_tellings(standing, hearers, demands)
            self.assertEqual(found, coarsest(fine))
            self.assert_tuples(found)
            sizes[len(found)] = True
        self.assertGreater(len(sizes), 2)

    def test_saving_examples(self):
        web = Web([("b", "a", ONE, 5), ("a", "b", ONE, 5)], [("a", 5)])
        # b knows that a pays: it sees nothing, but a pays wherever b owes.
        self.assertEqual(saving_tellings(table(), ["b"], web, [("b", ALL)]), (Sight.nothing(4),))
        web = Web([("b", "a", ONE, 5), ("b", "a", TWO, 1)], [("b", 2)])
        self.assertEqual(saving_tellings(table(), ["b"], web, []), (Sight.nothing(4),))
        self.assertEqual(saving_tellings(table(), ["b"], web, [("b", TWO)]), (Sight([0, 0, 1, 0]), Sight([0, 1, 0, 1])))
        self.assertEqual(saving_tellings(table(), ["b"], web, [("b", ONE)]), ())
        self.assertEqual(saving_tellings(table(), ["a"], web, [("b", TWO)]), ())
        # The claims of the notes mean what they mean before the telling.
        web = Web([("b", "a", Claim.knows("b", ONE), 5)], [])
        self.assertEqual(saving_tellings(table(), ["b"], web, [("b", ALL)]), (Sight.nothing(4),))

    def random_case(self, chance):
        """Return a random standing, hearers, web and reliances."""
        standing = random_standing(chance, most=5, parties="ab")
        if chance.random() < 0.6:
            standing = standing.without_party("b").with_party("b", [0] * len(standing))
        hearers = chance.choice([[], ["a"], ["b", "b"], ["b", "a"], ["b"]])
        return standing, hearers, random_web(chance, "ab"), random_reliances(chance)

    def test_saving_against_a_walk(self):
        chance = random.Random(105)
        sizes = {}
        for _ in range(150):
            standing, hearers, web, reliances = self.random_case(chance)
            fine = [one for one in all_sights(len(standing)) if plain_saves(standing, hearers, web, reliances, one)]
            found = saving_tellings(standing, hearers, web, reliances)
            self.assertEqual(found, coarsest(fine))
            sizes[(len(found), found[:1] == (Sight.nothing(len(standing)),))] = True
        self.assertGreater(len(sizes), 2)

    def test_in_secret_against_a_walk(self):
        chance = random.Random(106)
        kinds = {}
        for _ in range(300):
            standing, hearers, web, reliances = self.random_case(chance)
            secrets = random_secrets(chance, most=1)
            fine = [one for one in all_sights(len(standing)) if plain_saves(standing, hearers, web, reliances, one)
                    and not plain_given_away(standing, hearers, secrets, one)]
            found = saved_in_secret(standing, hearers, web, reliances, secrets)
            self.assertEqual(found, fine[0] if fine else None)
            saving = saving_tellings(standing, hearers, web, reliances)
            finest = finest_tellings(standing, hearers, secrets)
            self.assertIs(found is not None, any(tells(one, two) for one in finest for two in saving))
            kinds[(found is None, found == Sight.nothing(len(standing)))] = True
        self.assertEqual(len(kinds), 3)

    def test_errors(self):
        x, y = Claim.fact("x", 1), Claim.fact("y", 1)
        web = Web([("a", "q", x, 1)], [("r", 1)])
        demands = [(x, ("q", 0), ("p", 0))]
        self.assert_error(UnknownParty, {"name": "h"}, team_tellings, table(), ["a", "h"], demands)
        self.assert_error(UnknownFact, {"name": "x"}, team_tellings, table(), ["a"], demands)
        self.assert_error(UnknownParty, {"name": "q"}, team_tellings, table(), [], [(ALL,) + demands[0][1:]])
        for call in (saving_tellings, lambda *given: saved_in_secret(*given, [(["s"], y)])):
            self.assert_error(UnknownParty, {"name": "h"}, call, table(), ["a", "h"], web, [("s", y)])
            self.assert_error(UnknownParty, {"name": "q"}, call, table(), [], web, [("s", y)])
            fine = Web([], [("a", 1), ("r", 1)])
            self.assert_error(UnknownParty, {"name": "r"}, call, table(), [], fine, [("s", y)])
            fine = Web([], [])
            self.assert_error(UnknownParty, {"name": "t"}, call, table(), [], fine, [("a", ALL), ("t", y), ("s", y)])
            self.assert_error(UnknownFact, {"name": "y"}, call, table(), [], fine, [("a", y), ("t", y)])
        for secrets, error, name in (([([], ALL), (["a", "s"], y)], UnknownParty, "s"), ([(["a"], y)], UnknownFact, "y")):
            self.assert_error(error, {"name": name}, saved_in_secret, table(), [], Web([], []), [], secrets)

    def test_largest(self):
        start = time.time()
        standing = Standing(7).with_fact("f", [0, 1, 2, 0, 1, 2, 0]).with_fact("g", [0, 0, 0, 0, 1, 1, 1])
        for index, name in enumerate("abcdef"):
            standing = standing.with_party(name, [deal // (index + 1) for deal in range(7)] if index > 3 else [0] * 7)
        claims = [Claim.fact("f", digit) for digit in range(3)] + [Claim.fact("g", digit) for digit in range(2)]
        demands = [(claim, ("abcdef"[index], index % 2), ("bcdefa"[index], 1)) for index, claim in enumerate(claims)]
        demands += [(claims[1], ("a", 1), ("a", 1)), (claims[2], ("a", 0), ("a", 0)), (claims[3], ("b", 0), ("b", 0))]
        self.assertGreater(len(team_tellings(standing, list("abcd"), demands)), 0)
        notes = [("abcdef"[index % 6], "bcdefa"[index % 5], claims[index % 5], 1 + index) for index in range(10)]
        web = Web(notes, [(name, 9) for name in "abcdef"])
        reliances = [(name, claim) for name in "abc" for claim in claims[:3]]
        found = saving_tellings(standing, list("abcdef"), web, reliances)
        secrets = [(["a", "b"], claim) for claim in claims]
        first = saved_in_secret(standing, list("abcdef"), web, reliances, secrets)
        self.assertTrue(first is None or any(tells(first, one) for one in found))
        self.assertLess(time.time() - start, 30)


if __name__ == "__main__":
    unittest.main()
