"""Points 18 and 68 to 71: tellings, and what they give away."""

import random
import time
import unittest

from manysights.chains import tells
from manysights.claims import Claim
from manysights.errors import SizesDiffer, UnknownFact, UnknownParty
from manysights.listings import all_sights
from manysights.meanings import holds
from manysights.pools import pooled_sight
from manysights.sights import Sight
from manysights.standings import Standing
from manysights.tellings import finest_tellings, finest_within, given_away, is_finest, told
from manysights.views import View
from tests.helpers import Fails, random_claim, random_standing

ONE = Claim.fact("f", 1)


def table():
    """Return a standing with gaps in which nobody sees much."""
    made = Standing(6).only([0, 1, 3, 5]).with_fact("f", [0, 1, 1, 0])
    return made.with_party("a", [0, 0, 0, 0]).with_party("b", [0, 0, 1, 1], weights=[1, 2, 3, 4])


def plain_told(standing, hearers, telling):
    """Return the standing after a telling, by the words of point 68."""
    made = Standing(max(standing.deals) + 1).only(standing.deals)
    for name in standing.facts:
        made = made.with_fact(name, standing.digits(name))
    for name in standing.parties:
        marks = standing.sight(name).marks
        if name in hearers:
            marks = [pair[0] * 100 + pair[1] for pair in zip(marks, telling.marks)]
        made = made.with_party(name, marks, weights=standing.weights(name))
    return made


def plain_given_away(standing, hearers, secrets, telling):
    """Return what a telling gives away, by the words of point 69."""
    end = plain_told(standing, hearers, telling)
    found = []
    for index, (group, claim) in enumerate(secrets):
        sight = pooled_sight(end, group)
        for place, deal in enumerate(standing):
            if all(holds(standing, claim, standing.deals[other]) for other in sight.cell_of(place)):
                found.append((index, deal))
    return tuple(found)


def random_secrets(chance, parties="ab", most=3):
    """Return random secrets."""
    secrets = []
    for _ in range(chance.randint(0, most)):
        group = [chance.choice(parties) for _ in range(chance.randint(0, 3))]
        claim = chance.choice([random_claim(chance, 1, parties), Claim.fact("f", 1), ~Claim.fact("f", 0)])
        secrets.append([group, claim])
    return secrets


class TellingTest(Fails, unittest.TestCase):
    def test_told(self):
        telling = Sight([0, 1, 0, 1])
        end = told(table(), ["a"], telling)
        self.assertEqual((end.sight("a"), end.sight("b")), (telling, table().sight("b")))
        self.assertEqual(end.weights("b"), (1, 2, 3, 4))
        self.assertEqual(told(table(), [], telling), table())
        self.assertEqual(told(table(), ("b", "a", "b"), telling), told(table(), ["a", "b"], telling))
        chance = random.Random(68)
        for _ in range(200):
            standing = random_standing(chance)
            hearers = [chance.choice("abc") for _ in range(chance.randint(0, 4))]
            telling = Sight([chance.randint(0, 2) for _ in standing])
            found = told(standing, hearers, telling)
            self.assertEqual(found, plain_told(standing, hearers, telling))
            self.assert_well_formed(found)

    def test_given_away(self):
        everything = Sight.everything(4)
        secrets = [(["a"], ONE), (["b"], ONE), ([], ONE), (("a", "b", "a"), Claim.always())]
        expected = ((0, 1), (0, 3), (3, 0), (3, 1), (3, 3), (3, 5))
        self.assertEqual(given_away(table(), ["a"], secrets, everything), expected)
        # Who is not told what holds does not know it, but all may know it in common.
        both = given_away(table(), ["a", "b"], secrets, everything)
        self.assertEqual(both[:6], ((0, 1), (0, 3), (1, 1), (1, 3), (2, 1), (2, 3)))
        # The claim means what it meant before the telling.
        secret = [(["a"], ~Claim.knows("a", ONE))]
        self.assertEqual(len(given_away(table(), ["a"], secret, everything)), 4)
        self.assertEqual(given_away(table(), ["a"], [], everything), ())

    def test_given_away_against_the_words(self):
        chance = random.Random(69)
        count = [0, 0]
        for _ in range(300):
            standing = random_standing(chance, most=6, parties="ab")
            hearers = chance.choice([[], ["a"], ["b", "b"], ["b", "a"]])
            secrets, telling = random_secrets(chance), Sight([chance.randint(0, 2) for _ in standing])
            found = given_away(standing, hearers, secrets, telling)
            self.assertEqual(found, plain_given_away(standing, hearers, secrets, telling))
            self.assert_tuples(found)
            count[bool(found)] += 1
        self.assertGreater(min(count), 50)

    def test_finest_examples(self):
        found = finest_tellings(table(), ["a"], [(["a"], ONE)])
        self.assertEqual([one.marks for one in found], [(0, 0, 0, 1), (0, 0, 1, 1), (0, 1, 0, 1), (0, 1, 1, 1)])
        self.assertEqual(finest_tellings(table(), ["a"], []), (Sight.everything(4),))
        self.assertEqual(finest_tellings(table(), [], [(["a"], Claim.always())]), ())
        self.assertEqual(finest_tellings(table(), [], [(["a"], ONE)]), (Sight.everything(4),))
        self.assertIs(is_finest(table(), ["a"], [], Sight.nothing(4)), False)
        self.assertIs(is_finest(table(), ["a"], [], Sight.everything(4)), True)
        self.assertIs(is_finest(table(), ["a"], [([], Claim.always())], Sight.nothing(4)), False)

    def test_finest_against_a_walk(self):
        chance = random.Random(70)
        sizes = {}
        for _ in range(150):
            standing = random_standing(chance, most=5, parties="ab")
            if chance.random() < 0.7:
                for name in "ab":
                    marks = [chance.randint(0, 1) * chance.randint(0, 1) for _ in standing]
                    standing = standing.without_party(name).with_party(name, marks)
            hearers = chance.choice([["a"], ["b", "b"], ["b", "a"], ["a", "b"]])
            secrets = random_secrets(chance)
            every = list(all_sights(len(standing)))
            safe = [one for one in every if not plain_given_away(standing, hearers, secrets, one)]
            finest = [one for one in safe if not any(tells(other, one) and other != one for other in safe)]
            found = finest_tellings(standing, hearers, secrets)
            self.assertEqual(found, tuple(finest))
            for telling in every:
                marks = [one.marks for one in finest]
                self.assertIs(is_finest(standing, hearers, secrets, telling), telling.marks in marks)
            wanted = chance.choice(every)
            within = [one for one in safe if tells(wanted, one)]
            within = [one for one in within if not any(tells(other, one) and other != one for other in within)]
            self.assertEqual(finest_within(standing, hearers, secrets, wanted), tuple(within))
            sizes[min(len(finest), 4)] = True
        self.assertGreater(len(sizes), 3)

    def test_errors(self):
        wrong = Sight.nothing(3)
        secrets = [(["a", "q"], Claim.fact("x", 1)), (["p"], ONE)]
        for call in (given_away, is_finest, finest_within):
            self.assert_error(UnknownParty, {"name": "h"}, call, table(), ["a", "h"], secrets, wrong)
            self.assert_error(UnknownParty, {"name": "q"}, call, table(), ["a"], secrets, wrong)
            self.assert_error(UnknownFact, {"name": "x"}, call, table(), ["a"], [(["a"], Claim.fact("x", 1))] + secrets, wrong)
            self.assert_error(UnknownParty, {"name": "p"}, call, table(), ["a"], secrets[1:], wrong)
            for hearers in ([], ["a"]):
                self.assert_error(SizesDiffer, {"one": 4, "two": 3}, call, table(), hearers, [], wrong)
                self.assert_error(SizesDiffer, {"one": 4, "two": 5}, call, table(), hearers, [], Sight.nothing(5))
        self.assert_error(UnknownParty, {"name": "h"}, told, table(), ["a", "h", "i"], wrong)
        for hearers in ([], ["a"]):
            self.assert_error(SizesDiffer, {"one": 4, "two": 3}, told, table(), hearers, wrong)
        self.assert_error(UnknownParty, {"name": "h"}, finest_tellings, table(), ["h"], secrets)
        self.assert_error(UnknownParty, {"name": "q"}, finest_tellings, table(), [], secrets)

    def test_largest(self):
        start = time.time()
        standing = Standing(7).with_fact("f", [0, 1, 2, 0, 1, 2, 0])
        for index, name in enumerate("abcdef"):
            standing = standing.with_party(name, [deal // (index + 1) for deal in range(7)] if index > 2 else [0] * 7)
        secrets = [(list("abc"), Claim.knows("d", Claim.fact("f", digit % 3))) for digit in range(8)]
        found = finest_tellings(standing, list("abcdef"), secrets)
        for telling in found:
            self.assertIs(is_finest(standing, list("abcdef"), secrets, telling), True)
            self.assertEqual(finest_within(standing, list("abcdef"), secrets, telling), (telling,))
        big = Standing(2000).with_fact("f", [deal % 3 for deal in range(2000)])
        for name in "abcdef":
            big = big.with_party(name, [deal // 5 for deal in range(2000)])
        telling = Sight([deal % 15 for deal in range(2000)])
        self.assertEqual(len(given_away(big, list("ab"), [(["a"], ONE)] * 5, telling)), 5 * 667)
        self.assertLess(time.time() - start, 20)


if __name__ == "__main__":
    unittest.main()
