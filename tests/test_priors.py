"""Points 18, 82 to 85, 87 and 88: priors, rings, bets, and the groups for which there is one prior."""

import itertools
import random
import time
import unittest
from fractions import Fraction
from math import gcd

from manysights.bets import is_prior, is_tempting, is_twisted_ring
from manysights.errors import UnknownParty
from manysights.pieces import beside
from manysights.priors import agreeing_groups, one_prior
from manysights.standings import Standing
from tests.helpers import Fails, joined, random_standing


def clashing():
    """Return a standing of two parties who weigh two deals differently."""
    made = Standing(6).only([1, 3, 4]).with_party("a", [0, 0, 1], weights=[2, 3, 5])
    return made.with_party("b", [7, 7, 7], weights=[1, 2, 3]).with_party("c", [0, 1, 2])


def plain_is_prior(standing, names, prior):
    """Tell whether this is a prior for the named parties, by the words of point 82."""
    if len(prior) != len(standing) or any(number < 1 for number in prior):
        return False
    places = range(len(standing))
    return all(prior[i] * standing.weights(name)[j] == prior[j] * standing.weights(name)[i]
               for name in names for i in places for j in places if standing.sight(name).alike(i, j))


def plain_twist(standing, names, start, steps):
    """Return the twist of a ring, or None if it is none, by the words of point 83."""
    here, twist = start, Fraction(1)
    for name, deal in steps:
        one, two = standing.position(here), standing.position(deal)
        if name not in names or deal == here or not standing.sight(name).alike(one, two):
            return None
        twist *= Fraction(standing.weights(name)[two], standing.weights(name)[one])
        here = deal
    return twist if here == start else None


def plain_tempts(standing, bet):
    """Tell whether a bet tempts, by the words of point 84."""
    if [name for name, _ in bet] != list(standing.parties):
        return False
    rows = [gains for _, gains in bet]
    if any(len(gains) != len(standing) for gains in rows) or any(map(sum, zip(*rows))):
        return False
    sums = []
    for name, gains in bet:
        weights = standing.weights(name)
        sums += [sum(weights[i] * gains[i] for i in cell) for cell in standing.sight(name).cells]
    return all(number >= 0 for number in sums) and any(number > 0 for number in sums)


def has_prior(standing, names):
    """Tell whether there is one prior, by a plain search for numbers that all chains agree on."""
    found = {}
    for start in range(len(standing)):
        if start in found:
            continue
        found[start], waiting = Fraction(1), [start]
        for i in waiting:
            for name in names:
                weights = standing.weights(name)
                for j in standing.sight(name).cell_of(i):
                    value = found[i] * weights[j] / weights[i]
                    if j not in found:
                        found[j] = value
                        waiting.append(j)
                    elif found[j] != value:
                        return False
    return True


def random_weighed(chance, names="abc", most=7):
    """Return a random standing with or without one prior for some of its parties."""
    standing = random_standing(chance, most=most, parties="", weights=False)
    base = [chance.randint(1, 6) for _ in standing]
    for name in names:
        marks = [chance.randint(0, 3) for _ in standing]
        if chance.random() < 0.7:
            # In each cell the weights are in the same proportion as the base.
            weights = [number * (mark + 2) for number, mark in zip(base, marks)]
        else:
            weights = [chance.randint(1, 3) for _ in standing]
        standing = standing.with_party(name, marks, weights=weights)
    return standing


class PriorsTest(Fails, unittest.TestCase):
    def check(self, standing, parties):
        """Check what one_prior returns for listed parties against the words of the points."""
        found = one_prior(standing, parties=parties)
        names = standing.parties if parties is None else parties
        self.assertIs(found.prior is not None, has_prior(standing, names))
        self.assert_tuples((found.prior, found.ring, found.bet))
        if found.prior is None:
            start, steps = found.ring
            self.assertNotIn(plain_twist(standing, names, start, steps), (None, 1))
            self.assertIs(is_twisted_ring(standing, start, steps), True)
            self.assertTrue(plain_tempts(standing, found.bet))
            self.assertIs(is_tempting(standing, found.bet), True)
            for name, gains in found.bet:
                if name not in names:
                    self.assertEqual(set(gains), {0})
        else:
            self.assertIsNone(found.ring)
            self.assertIsNone(found.bet)
            self.assertTrue(plain_is_prior(standing, names, found.prior))
            near = joined([standing.sight(name).marks for name in names], len(standing))
            for row in near:
                self.assertEqual(gcd(*[found.prior[i] for i, alike in enumerate(row) if alike]), 1)
            if parties is None:
                self.assertIs(is_prior(standing, found.prior), True)
        return found

    def test_examples(self):
        found = self.check(clashing(), None)
        self.assertIsNone(found.prior)
        self.assertEqual(dict(found.bet)["c"], (0, 0, 0))
        self.assertEqual(self.check(clashing(), ["a", "c", "a"]).prior, (2, 3, 1))
        self.assertEqual(self.check(clashing(), ("b", "c")).prior, (1, 2, 3))
        self.assertEqual(self.check(clashing(), ["c"]).prior, (1, 1, 1))
        self.assertEqual(self.check(clashing(), []).prior, (1, 1, 1))
        self.assertEqual(self.check(Standing(3), None).prior, (1, 1, 1))
        made = Standing(6).with_party("a", [0, 0, 1, 1, 2, 2], weights=[6, 4, 3, 9, 5, 5])
        self.assertEqual(self.check(made, None).prior, (3, 2, 1, 3, 1, 1))
        made = made.with_party("b", [0, 1, 1, 2, 3, 4], weights=[1, 7, 14, 1, 1, 1])
        self.assertEqual(self.check(made, None).prior, (3, 2, 4, 12, 1, 1))

    def test_against_the_words(self):
        chance = random.Random(82)
        count = {True: 0, False: 0}
        for _ in range(400):
            standing = random_weighed(chance)
            parties = chance.choice([None, None, [chance.choice("abc") for _ in range(chance.randint(0, 4))]])
            count[self.check(standing, parties).prior is None] += 1
        self.assertGreater(min(count.values()), 80)

    def test_long_rings(self):
        # Each pair of neighbours is alike for one party, all around.
        size = 12
        for heavy in range(size):
            weights = [2 if deal == heavy else 1 for deal in range(size)]
            made = Standing(size).with_party("a", [deal // 2 for deal in range(size)], weights=weights)
            made = made.with_party("b", [(deal + 1) % size // 2 for deal in range(size)])
            found = self.check(made, None)
            self.assertEqual(len(found.ring[1]), size)

    def test_agreeing_groups(self):
        self.assertEqual(agreeing_groups(clashing()), (("a", "c"), ("b", "c")))
        self.assertEqual(agreeing_groups(Standing(2)), ((),))
        chance = random.Random(88)
        sizes = {}
        for _ in range(150):
            names = "".join(chance.sample("abcdef", chance.randint(0, 6)))
            standing = random_weighed(chance, names, 5)
            rows = [row for size in range(len(names) + 1) for row in itertools.combinations(range(len(names)), size)]
            fine = [row for row in rows if has_prior(standing, [names[index] for index in row])]
            most = [row for row in fine if not any(set(row) < set(other) for other in fine)]
            found = agreeing_groups(standing)
            self.assertEqual(found, tuple(tuple(names[index] for index in row) for row in most))
            self.assert_tuples(found)
            sizes[len(found)] = True
        self.assertGreater(len(sizes), 3)

    def test_errors(self):
        self.assert_error(UnknownParty, {"name": "q"}, one_prior, clashing(), parties=["a", "q", "p"])
        self.assert_error(UnknownParty, {"name": "q"}, one_prior, Standing(2), parties=("q",))

    def test_largest(self):
        start = time.time()
        chance, size = random.Random(85), 2000
        heavy = [[chance.randint(1, 999) for _ in range(size)] for _ in range(6)]
        line = Standing(size).with_party("a", [deal // 2 for deal in range(size)], weights=heavy[0])
        line = line.with_party("b", [(deal + 1) // 2 for deal in range(size)], weights=heavy[1])
        self.assertIs(is_prior(line, one_prior(line).prior), True)
        self.assertEqual(agreeing_groups(line), (("a", "b"),))
        around = line.without_party("b").with_party(
            "b", [(deal + 1) % size // 2 for deal in range(size)], weights=heavy[1])
        found = one_prior(around)
        self.assertEqual(len(found.ring[1]), size)
        self.assertIs(is_twisted_ring(around, *found.ring), True)
        self.assertIs(is_tempting(around, found.bet), True)
        many = Standing(size)
        for index, name in enumerate("abcdef"):
            many = many.with_party(name, [deal // (index + 2) for deal in range(size)], weights=heavy[index])
        self.assertEqual(len(agreeing_groups(many)), 6)
        wide = beside(around.only(range(40)), many.only(range(50)).without_party("a").without_party("b"))
        self.assertEqual(len(wide), 2000)
        self.check_wide(wide)
        self.assertLess(time.time() - start, 30)

    def check_wide(self, standing):
        """Check one_prior for a large standing by the judges alone."""
        found = one_prior(standing)
        if found.prior is None:
            self.assertIs(is_twisted_ring(standing, *found.ring), True)
            self.assertIs(is_tempting(standing, found.bet), True)
        else:
            self.assertIs(is_prior(standing, found.prior), True)


if __name__ == "__main__":
    unittest.main()
