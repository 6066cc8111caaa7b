"""Points 18, 55 and 56: deeds that are repeated for ever."""

import random
import time
import unittest

from manysights.claims import Claim
from manysights.deeds import Deed
from manysights.doing import after
from manysights.errors import HasCall, UnknownDeal, UnknownFact, UnknownParty
from manysights.meanings import holds
from manysights.rounds import first_round, holds_again, holds_from, rounds
from manysights.standings import Standing
from manysights.views import View
from tests.helpers import Fails, digit_step, random_claim, random_deed, random_standing

F, ZERO = View.value("f"), Claim.fact("f", 0)
CALL = Deed.call(Claim.always())


def counter():
    """Return a standing in which facts can be counted up."""
    made = Standing(5).only([0, 4]).with_fact("f", [0, 1]).with_fact("g", [0, 0]).with_fact("h", [0, 0])
    return made.with_party("a", [0, 0]).with_party("b", [0, 0])


class RoundsTest(Fails, unittest.TestCase):
    def check(self, standing, deeds):
        """Check the words of point 55 and return the rounds."""
        found = rounds(standing, deeds)
        plain = [standing]
        for _ in range(2 * len(found.standings) + 3):
            plain.append(after(plain[-1], Deed.row(deeds)))
        count = len(found.standings)
        self.assertEqual(list(found.standings), plain[:count])
        self.assertEqual(plain[count], plain[found.back])
        for place, one in enumerate(found.standings):
            self.assertNotIn(one, found.standings[:place])
        for place, one in enumerate(plain):
            self.assertEqual(found.standing_after(place), one)
        self.assert_tuples(found.standings)
        return found

    def test_examples(self):
        found = self.check(counter(), [])
        self.assertEqual((found.standings, found.back), ((counter(),), 0))
        found = self.check(counter(), [Deed.announce(View.value("g")), Deed.row([])])
        self.assertEqual((len(found.standings), found.back), (1, 0))
        found = self.check(counter(), [Deed.announce(F)])
        self.assertEqual((len(found.standings), found.back), (2, 1))
        found = self.check(counter(), [digit_step("f", 2)])
        self.assertEqual((len(found.standings), found.back), (3, 0))
        # Forgetting and showing in turns come back to what was before within each round.
        found = self.check(counter(), [Deed.show([("a", F)]), digit_step("g", 2), digit_step("g", 2)])
        self.assertEqual((len(found.standings), found.back), (4, 1))

    def test_calls(self):
        deep = Deed.row([Deed.row([]), Deed.row([Deed.announce(F), Deed.row([CALL])])])
        for deeds, index in (([CALL], 0), ([Deed.announce(F), Deed.row([CALL]), CALL], 1), ([Deed.row([]), deep], 1)):
            self.assert_error(HasCall, {"index": index}, rounds, counter(), deeds)
        self.assertEqual(rounds(counter(), [Deed.row([])]).back, 0)

    def test_random(self):
        chance = random.Random(55)
        shapes = {}
        for _ in range(250):
            standing = random_standing(chance, most=5)
            deeds = [random_deed(chance, 1, calls=False) for _ in range(chance.randint(0, 4))]
            deeds += chance.choice([[], [digit_step("f", 2)], [digit_step("f", 2), Deed.announce(F)]])
            found = self.check(standing, deeds)
            shapes[(found.back > 0, len(found.standings) - found.back > 1)] = True
        self.assertEqual(len(shapes), 4)

    def test_great_numbers(self):
        deeds = [Deed.announce(F), digit_step("f", 9), digit_step("g", 6)]
        found = rounds(counter(), deeds)
        self.assertEqual(len(found.standings) - found.back, 70)
        self.assertEqual(found.standing_after(10**40 + 3), found.standing_after((10**40 + 3 - 70) % 70 + 70))
        self.assertEqual(found.standing_after(0), counter())

    def test_names(self):
        wrong = Deed.forget("q", View.value("x"))
        self.assert_error(UnknownParty, {"name": "q"}, rounds, counter(), [CALL, wrong])
        self.assert_error(UnknownFact, {"name": "x"}, rounds, counter(), [CALL, Deed.announce(View.value("x")), wrong])
        found = rounds(counter(), [digit_step("f", 2)])
        for call in (holds_from, holds_again, first_round):
            self.assert_error(UnknownParty, {"name": "q"}, call, found, Claim.knows("q", Claim.fact("x", 1)), 1)
            self.assert_error(UnknownFact, {"name": "x"}, call, found, Claim.knows("a", Claim.fact("x", 1)), 1)
            self.assert_error(UnknownDeal, {"deal": 1}, call, found, ZERO, 1)

    def test_largest(self):
        start = time.time()
        standing = Standing(40).with_fact("f", [0] * 40).with_fact("g", [0] * 40).with_fact("h", [0] * 40)
        standing = standing.with_fact("i", [deal % 2 for deal in range(40)])
        for name in "abcdef":
            standing = standing.with_party(name, [deal // 3 for deal in range(40)])
        nines = Claim.fact("f", 9)
        carry = Deed.change([("g", [(nines & Claim.fact("g", digit), (digit + 1) % 10) for digit in range(10)]),
                             ("h", [(nines & Claim.fact("g", 9) & Claim.fact("h", digit), (digit + 1) % 10)
                                    for digit in range(10)])])
        deeds = [carry, digit_step("f", 9), digit_step("i", 1)]
        found = rounds(standing, deeds)
        self.assertEqual((len(found.standings), found.back), (1000, 0))
        last = nines & Claim.fact("g", 9) & Claim.fact("h", 9)
        self.assertEqual(first_round(found, last, 7), 999)
        self.assertIs(holds_again(found, last, 7), True)
        self.assertIsNone(holds_from(found, last, 7))
        self.assertLess(time.time() - start, 20)


class QuestionsTest(Fails, unittest.TestCase):
    def test_examples(self):
        found = rounds(counter(), [digit_step("f", 2)])
        self.assertEqual([first_round(found, Claim.fact("f", digit), 4) for digit in range(4)], [2, 0, 1, None])
        self.assertIsNone(holds_from(found, ZERO, 0))
        self.assertEqual(holds_from(found, ~Claim.fact("f", 3), 0), 0)
        self.assertIs(holds_again(found, Claim.fact("f", 2), 0), True)
        self.assertIs(holds_again(found, Claim.fact("f", 3), 0), False)
        shown = rounds(counter(), [Deed.announce(F)])
        self.assertEqual(holds_from(shown, Claim.knows("a", ZERO), 0), 1)
        self.assertIs(holds_again(shown, ~Claim.knows("a", ZERO), 0), False)
        self.assertEqual(first_round(shown, ~Claim.knows("a", ZERO), 0), 0)

    def test_against_a_walk(self):
        chance = random.Random(56)
        count = {}
        for _ in range(500):
            standing = random_standing(chance, most=5)
            deeds = [random_deed(chance, 1, calls=False) for _ in range(chance.randint(0, 3))]
            deeds += chance.choice([[], [digit_step("f", 2)]])
            claim, deal = random_claim(chance, 2), chance.choice(standing.deals)
            found = rounds(standing, deeds)
            size = len(found.standings)
            truths = [holds(found.standing_after(place), claim, deal) for place in range(2 * size)]
            starts = [place for place in range(size) if all(truths[place:])]
            self.assertEqual(holds_from(found, claim, deal), starts[0] if starts else None)
            self.assertIs(holds_again(found, claim, deal), any(truths[size:]))
            self.assertEqual(first_round(found, claim, deal), truths.index(True) if any(truths) else None)
            count[(starts[0] > 0 if starts else None, any(truths[size:]), any(truths))] = True
        self.assertGreaterEqual(len(count), 4)


if __name__ == "__main__":
    unittest.main()
