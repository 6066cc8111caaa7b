"""Points 18, 72 and 73: wishes, the coarsest tellings that grant them, and tellings between."""

import random
import time
import unittest

from manysights.chains import tells
from manysights.claims import Claim
from manysights.errors import UnknownFact, UnknownParty
from manysights.listings import all_sights
from manysights.meanings import sight_of
from manysights.pools import pooled_sight
from manysights.sights import Sight
from manysights.standings import Standing
from manysights.tellings import finest_tellings, given_away
from manysights.views import View
from manysights.wishes import coarsest_tellings, telling_between
from tests.helpers import Fails, random_standing, random_view
from tests.test_tellings import plain_given_away, plain_told, random_secrets, table

F, ONE = View.value("f"), Claim.fact("f", 1)


def grants(standing, hearers, wishes, telling):
    """Tell whether a telling grants all wishes, by the words of point 72."""
    end = plain_told(standing, hearers, telling)
    return all(tells(pooled_sight(end, group), sight_of(standing, view)) for group, view in wishes)


def random_wishes(chance):
    """Return random wishes."""
    wishes = []
    for _ in range(chance.randint(0, 2)):
        group = [chance.choice("ab") for _ in range(chance.randint(0, 3))]
        wishes.append((group, chance.choice([random_view(chance, 1, "ab"), F, View.whether(ONE)])))
    return wishes


class WishesTest(Fails, unittest.TestCase):
    def test_examples(self):
        found = coarsest_tellings(table(), ["a"], [(["a"], F)])
        self.assertEqual(found, (Sight([0, 1, 1, 0]),))
        # What b sees already need not be told: together they need less.
        found = coarsest_tellings(table(), ["a"], [(["a", "b"], F)])
        self.assertEqual([one.marks for one in found], [(0, 1, 0, 1), (0, 1, 1, 0)])
        self.assertEqual(coarsest_tellings(table(), ["a"], []), (Sight.nothing(4),))
        self.assertEqual(coarsest_tellings(table(), ["a"], [(["b"], F)]), ())
        # The view means what it meant before the telling.
        self.assertEqual(coarsest_tellings(table(), ["a"], [(["b"], View.eyes("a"))]), (Sight.nothing(4),))

    def test_coarsest_against_a_walk(self):
        chance = random.Random(72)
        sizes = {}
        for _ in range(200):
            standing = random_standing(chance, most=5, parties="ab")
            hearers, wishes = chance.choice([[], ["a"], ["b", "b"], ["b", "a"]]), random_wishes(chance)
            fine = [one for one in all_sights(len(standing)) if grants(standing, hearers, wishes, one)]
            coarsest = [one for one in fine if not any(tells(one, other) and other != one for other in fine)]
            found = coarsest_tellings(standing, hearers, wishes)
            self.assertEqual(found, tuple(coarsest))
            sizes[min(len(found), 2)] = True
        self.assertEqual(len(sizes), 3)

    def test_between_examples(self):
        found = telling_between(table(), ["a"], [(["b"], ONE)], [(["a"], F)])
        self.assertEqual((found.telling, found.losses), (Sight([0, 1, 1, 0]), ()))
        found = telling_between(table(), ["a"], [(["a"], ONE)], [(["a"], F)])
        self.assertIsNone(found.telling)
        self.assertEqual(found.losses, ((Sight([0, 1, 1, 0]), 0, 1),))
        # No telling grants the wish; nothing need be told for no wish.
        found = telling_between(table(), ["a"], [(["a"], ONE)], [(["b"], F)])
        self.assertEqual((found.telling, found.losses), (None, ()))
        found = telling_between(table(), ["a"], [(["a"], ONE)], [])
        self.assertEqual((found.telling, found.losses), (Sight.nothing(4), ()))
        found = telling_between(table(), ["a"], [(["a"], Claim.always())], [])
        self.assertEqual((found.telling, found.losses), (None, ((Sight.nothing(4), 0, 0),)))

    def test_between_against_a_walk(self):
        chance = random.Random(73)
        count = [0, 0, 0, 0]
        for _ in range(250):
            standing = random_standing(chance, most=5, parties="ab")
            hearers = chance.choice([["a"], ["b", "b"], ["b", "a"]])
            secrets, wishes = random_secrets(chance), random_wishes(chance)
            found = telling_between(standing, hearers, secrets, wishes)
            fine = [one for one in all_sights(len(standing)) if grants(standing, hearers, wishes, one)]
            safe = [one for one in fine if not plain_given_away(standing, hearers, secrets, one)]
            if safe:
                self.assertEqual((found.telling, found.losses), (safe[0], ()))
            else:
                coarsest = coarsest_tellings(standing, hearers, wishes)
                losses = tuple((one, *given_away(standing, hearers, secrets, one)[0]) for one in coarsest)
                self.assertEqual((found.telling, found.losses), (None, losses))
                self.assert_tuples(found.losses)
            count[0 if safe else min(len(found.losses), 2) + 1] += 1
            both = any(tells(one, other) for one in finest_tellings(standing, hearers, secrets)
                       for other in coarsest_tellings(standing, hearers, wishes))
            self.assertIs(found.telling is not None, both)
        self.assertGreater(min(count), 3)

    def test_names(self):
        secrets, wishes = [(["q"], Claim.fact("x", 1))], [(["p"], View.value("y"))]
        self.assert_error(UnknownParty, {"name": "h"}, telling_between, table(), ["h"], secrets, wishes)
        self.assert_error(UnknownParty, {"name": "q"}, telling_between, table(), ["a"], secrets, wishes)
        self.assert_error(UnknownFact, {"name": "x"}, telling_between, table(), [], [([], Claim.fact("x", 1))], wishes)
        self.assert_error(UnknownParty, {"name": "p"}, telling_between, table(), [], [], wishes)
        self.assert_error(UnknownParty, {"name": "h"}, coarsest_tellings, table(), ["h"], wishes)
        self.assert_error(UnknownFact, {"name": "y"}, coarsest_tellings, table(), [], [([], View.value("y"))] + wishes)

    def test_largest(self):
        start = time.time()
        standing = Standing(7).with_fact("f", [0, 1, 2, 0, 1, 2, 0])
        for name in "abcdef":
            standing = standing.with_party(name, [0] * 7)
        wishes = [(["a", name], View.whether(Claim.fact("f", digit))) for name in "bcdef" for digit in range(3)]
        found = telling_between(standing, list("abcdef"), [(list("ab"), ONE)] * 6, wishes)
        self.assertIsNone(found.telling)
        self.assertEqual(found.losses, ((Sight([0, 1, 2, 0, 1, 2, 0]), 0, 1),))
        self.assertLess(time.time() - start, 20)


if __name__ == "__main__":
    unittest.main()
