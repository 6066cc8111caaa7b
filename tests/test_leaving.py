"""Points 18 and 74: deeds that must be left out."""

import itertools
import random
import time
import unittest

from manysights.claims import Claim
from manysights.deeds import Deed
from manysights.doing import after, possible_at
from manysights.errors import UnknownFact, UnknownParty
from manysights.leaving import leave_out
from manysights.sights import Sight
from manysights.standings import Standing
from manysights.tellings import given_away
from manysights.views import View
from tests.helpers import Fails, digit_step, random_deed, random_standing
from tests.test_tellings import random_secrets

F, ONE = View.value("f"), Claim.fact("f", 1)
NEVER = Deed.call(~Claim.always())


def table():
    """Return a standing in which nobody sees anything."""
    made = Standing(4).with_fact("f", [0, 1, 1, 0]).with_fact("g", [0, 0, 1, 1])
    return made.with_party("a", [0] * 4).with_party("b", [0] * 4)


def stays_secret(standing, deeds, secrets):
    """Tell whether the deeds can be done in order while the secrets stay secret at each moment."""
    for deed in [Deed.row([]), *deeds]:
        if not possible_at(standing, deed):
            return False
        standing = after(standing, deed)
        if given_away(standing, [], secrets, Sight.nothing(len(standing))):
            return False
    return True


def plain_left_out(standing, deeds, secrets):
    """Return what must be left out, by a walk over all sets."""
    for size in range(len(deeds) + 1):
        for row in itertools.combinations(range(len(deeds)), size):
            if stays_secret(standing, [deed for index, deed in enumerate(deeds) if index not in row], secrets):
                return row
    return None


class LeavingTest(Fails, unittest.TestCase):
    def test_examples(self):
        show, other = Deed.show([("a", F)]), Deed.show([("b", View.value("g"))])
        secret = [(["a"], ONE)]
        self.assertEqual(leave_out(table(), [show, other], secret), (0,))
        self.assertEqual(leave_out(table(), [show, other], []), ())
        self.assertEqual(leave_out(table(), [], secret), ())
        self.assertIsNone(leave_out(table(), [show], [(["b"], Claim.always())]))
        # Deeds that are not possible must be left out, too; later deeds can make them possible.
        self.assertEqual(leave_out(table(), [NEVER, other], []), (0,))
        two = Deed.call(Claim.fact("f", 2))
        self.assertEqual(leave_out(table(), [two, digit_step("f", 2), two], []), (0,))
        # A secret must be kept at each moment, but within a row only at its end.
        there, back = Deed.change([("f", [(Claim.always(), 1)])]), Deed.exchange("f", "g")
        mixed = [there, back, back]
        self.assertEqual(leave_out(table(), mixed, [(["a"], ONE)]), (0,))
        self.assertEqual(leave_out(table(), [there >> back], [(["a"], ONE)]), ())
        # Of several sets with equally few deeds, the least one.
        self.assertEqual(leave_out(table(), [show, Deed.announce(F), show], [(["a"], ONE)]), (0, 1, 2))
        halves = [Deed.show([("a", View.value("g"))]), Deed.show([("a", View.whether(ONE | Claim.fact("g", 1)))])]
        self.assertEqual(leave_out(table(), halves, [(["a"], ONE & Claim.fact("g", 0))]), (0,))

    def test_against_a_walk(self):
        chance = random.Random(74)
        sizes = {}
        for _ in range(250):
            standing = random_standing(chance, most=5, parties="ab")
            deeds = [chance.choice([random_deed(chance, 1, "ab"), Deed.show([(chance.choice("ab"), F)])])
                     for _ in range(chance.randint(0, 5))]
            secrets = random_secrets(chance, most=2)
            found = leave_out(standing, deeds, secrets)
            self.assertEqual(found, plain_left_out(standing, deeds, secrets))
            sizes[None if found is None else min(len(found), 3)] = True
        self.assertEqual(len(sizes), 5)

    def test_names(self):
        secrets = [(["q"], Claim.fact("x", 1))]
        deeds = [NEVER, Deed.announce(View.value("y")), Deed.forget("p", F)]
        self.assert_error(UnknownFact, {"name": "y"}, leave_out, table(), deeds, secrets)
        self.assert_error(UnknownParty, {"name": "p"}, leave_out, table(), deeds[2:], secrets)
        self.assert_error(UnknownParty, {"name": "q"}, leave_out, table(), deeds[:1], secrets)
        self.assert_error(UnknownFact, {"name": "x"}, leave_out, table(), [], [(["a"], Claim.fact("x", 1))])

    def test_largest(self):
        start = time.time()
        standing = Standing(2000).with_fact("f", [deal % 7 for deal in range(2000)])
        for index, name in enumerate("abcdef"):
            standing = standing.with_party(name, [deal // (20 + index) for deal in range(2000)])
        deeds = [Deed.show([(name, F)]) for name in "abcdef"]
        secrets = [([name], ONE) for name in "abcde"] + [([], ONE)]
        self.assertEqual(leave_out(standing, deeds, secrets), (0, 1, 2, 3, 4))
        self.assertLess(time.time() - start, 30)


if __name__ == "__main__":
    unittest.main()
