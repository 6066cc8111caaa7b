"""Points 18 and 77 to 80: talks."""

import random
import time
import unittest

from manysights.chances import worth
from manysights.claims import Claim
from manysights.deeds import Deed
from manysights.doing import after
from manysights.errors import NoSpeakers, UnknownFact, UnknownParty
from manysights.meanings import holds
from manysights.pieces import pieces
from manysights.priors import one_prior
from manysights.sights import Sight
from manysights.standings import Standing
from manysights.talks import leaning_talk, spoken, talk
from manysights.views import View
from tests.helpers import Fails, random_standing, random_terms

ONE = Claim.fact("f", 1)


def table():
    """Return a standing in which two parties talk for several rounds."""
    made = Standing(9).only([0, 1, 2, 3, 5, 6, 7, 8]).with_fact("f", [1, 0, 1, 0, 1, 0, 1, 0])
    made = made.with_party("a", [0, 0, 1, 1, 2, 2, 3, 3]).with_party("b", [0, 1, 1, 2, 2, 3, 3, 4])
    return made.with_party("c", [0, 0, 0, 0, 0, 0, 0, 0], weights=[1, 2, 3, 4, 5, 6, 7, 8])


def plain_turn(standing, party, terms, leaning):
    """Return what a party says and the standing after its turn, by the words of points 77 and 80."""
    if leaning:
        claim = Claim.gains(party, terms)
        said = tuple(holds(standing, claim, deal) for deal in standing)
        return said, after(standing, Deed.announce(View.whether(claim)))
    said = tuple(worth(standing, party, terms, deal) for deal in standing)
    return said, after(standing, Deed.announce(View.worth(party, terms)))


def plain_talk(standing, speakers, terms, leaning=False):
    """Return the turns and the number of rounds of a talk, by the words of points 77 and 80."""
    turns, rounds, start = [], 0, None
    while start is None or standing != start:
        start, rounds = standing, rounds + 1
        for party in speakers:
            said, standing = plain_turn(standing, party, terms, leaning)
            turns.append((party, said, standing))
    return tuple(turns), rounds


def random_talkers(chance):
    """Return a random standing in which talks last, speakers and terms."""
    standing = random_standing(chance, most=8)
    speakers = [chance.choice("abc") for _ in range(chance.randint(1, 4))]
    terms = random_terms(chance, 1)
    if chance.random() < 0.6:
        terms = terms[:1] + [(chance.randint(-2, 3), Claim.fact("f", digit)) for digit in (0, 1)]
    return standing, speakers, terms


class TalksTest(Fails, unittest.TestCase):
    def check(self, standing, speakers, terms):
        """Check a talk and a leaning talk against plain walks, and return the talk."""
        for call, leaning in ((talk, False), (leaning_talk, True)):
            found = call(standing, speakers, terms)
            self.assertEqual((found.turns, found.rounds), plain_talk(standing, speakers, terms, leaning))
            self.assertEqual(found.end, found.turns[-1][2])
            self.assertEqual(len(found.turns), found.rounds * len(speakers))
            self.assert_tuples(found.turns)
            self.assertLessEqual(found.rounds, 1 + len(standing) - len(pieces(standing)))
            for piece in pieces(found.end):
                for party in speakers:
                    said = plain_turn(piece, party, terms, leaning)[0]
                    self.assertEqual(len(set(said)), 1)
            if leaning:
                for _, said, _ in found.turns:
                    self.assertTrue(all(answer is True or answer is False for answer in said))
            else:
                self.assertEqual(tuple(spoken(standing, speakers, terms)), found.turns)
        return talk(standing, speakers, terms)

    def test_example(self):
        found = self.check(table(), ["a", "b"], [(1, ONE)])
        self.assertEqual(found.turns[0][:2], ("a", ((1, 2),) * 8))
        self.assertEqual(found.turns[1][1], ((1, 1),) + ((1, 2),) * 6 + ((0, 1),))
        self.assertEqual(found.rounds, 4)
        # All but c, who tells nothing apart, know everything when the deals are said one by one.
        self.assertEqual(found.end.sight("b"), Sight.everything(8))
        self.assertEqual(found.end.sight("c"), Sight.everything(8))

    def test_one_round(self):
        for terms in ([], [(1, Claim.always())], [(0, ONE)]):
            found = self.check(table(), ["c", "c", "a"], terms)
            self.assertEqual((found.rounds, len(found.turns), found.end), (1, 3, table()))
        self.assertEqual(self.check(table(), ["c"], [(1, ONE)]).rounds, 1)
        # What changes in the last turn of a round makes one more round.
        self.assertEqual(self.check(table(), ["c", "a", "b"], [(1, Claim.knows("b", ONE))]).rounds, 2)

    def test_against_plain_walks(self):
        chance = random.Random(77)
        rounds = {}
        for _ in range(250):
            found = self.check(*random_talkers(chance))
            rounds[found.rounds] = True
        self.assertGreater(max(rounds), 2)

    def test_agreement_at_the_end(self):
        chance = random.Random(78)
        count = 0
        for _ in range(200):
            standing, _, terms = random_talkers(chance)
            if chance.random() < 0.5:
                standing = standing.without_party("b").with_party(
                    "b", standing.sight("b").marks, weights=standing.weights("a"))
            speakers = chance.choice([["a", "b"], ["b", "a", "a"], ["a", "c", "b"]])
            same = standing.weights("a") == standing.weights("b")
            if same or one_prior(standing, parties=["a", "b"]).prior is not None:
                count += 1
                end = talk(standing, speakers, terms).end
                for deal in end:
                    self.assertEqual(worth(end, "a", terms, deal), worth(end, "b", terms, deal))
        self.assertGreater(count, 80)

    def test_spoken_step_by_step(self):
        turns = plain_talk(table(), ("a", "b"), [(1, ONE)])[0]
        speakers, terms = ["a", "b"], [[1, ONE]]
        found = spoken(table(), speakers, terms)
        self.assertEqual(next(found), turns[0])
        # A later change to an argument has no effect.
        speakers[1], terms[0][0] = "c", 5
        speakers.append("c")
        self.assertEqual(next(found), turns[1])
        self.assertEqual(tuple(found), turns[2:])

    def test_errors(self):
        bad = [(1, Claim.fact("x", 1)), (1, Claim.knows("p", ONE))]
        for call in (talk, leaning_talk, lambda *given: next(spoken(*given))):
            self.assert_error(UnknownParty, {"name": "q"}, call, table(), ["a", "q", "p"], bad)
            self.assert_error(UnknownFact, {"name": "x"}, call, table(), ["a"], bad)
            self.assert_error(UnknownFact, {"name": "x"}, call, table(), [], bad)
            self.assert_error(UnknownParty, {"name": "p"}, call, table(), (), bad[1:])
            self.assert_error(NoSpeakers, {}, call, table(), [], [(1, ONE)])
        # The generator looks at nothing before its first item is asked for.
        speakers = []
        found = spoken(table(), speakers, [(1, ONE)])
        speakers.append("a")
        self.assertEqual(next(found)[0], "a")
        self.assertIsNotNone(spoken(table(), [], bad))

    def test_largest(self):
        start = time.time()
        count = 2000
        standing = Standing(count).with_fact("f", [deal % 2 for deal in range(count)])
        standing = standing.with_party("a", [deal // 2 for deal in range(count)])
        standing = standing.with_party("b", [(deal + 1) // 2 for deal in range(count)])
        self.assertEqual(talk(standing, ["a", "b"], [(1, ONE)]).rounds, 502)
        for index, name in enumerate("cdef"):
            standing = standing.with_party(name, [deal // (index + 3) for deal in range(count)], weights=[999] * count)
        found = talk(standing, list("abcdef"), [(999, Claim.knows(name, ONE)) for name in "abcdef"])
        self.assertEqual(found.end, found.turns[-7][2])
        self.assertLess(time.time() - start, 30)


if __name__ == "__main__":
    unittest.main()
