"""Points 18 and 93 to 95: what it costs to learn a target by questions."""

import random
import time
import unittest
from fractions import Fraction

from manysights.asking import is_floor, least_asking
from manysights.claims import Claim
from manysights.errors import UnknownDeal, UnknownFact, UnknownParty
from manysights.meanings import sight_of
from manysights.standings import Standing
from manysights.views import View
from tests.helpers import Fails, random_standing, random_view

A, F, G = View.eyes("a"), View.value("f"), View.value("g")


def table():
    """Return a standing with gaps in which a sees little."""
    made = Standing(9).only([0, 2, 3, 5, 8]).with_fact("f", [0, 1, 2, 3, 0]).with_fact("g", [0, 0, 1, 1, 0])
    return made.with_party("a", [0, 0, 0, 0, 1], weights=[1, 2, 3, 4, 5]).with_party("b", [0, 1, 0, 1, 0])


class Plain:
    """The costs of the sets of an asking, by the words of points 93 and 94."""

    def __init__(self, standing, party, questions, target, worst):
        self.standing, self.worst = standing, worst
        self.weights = dict(zip(standing.deals, standing.weights(party)))
        self.questions = [(sight_of(standing, view), price) for view, price in questions]
        self.target = sight_of(standing, target)
        self.sight = standing.sight(party)

    def cell(self, deal):
        """Return the cell of the party at a deal."""
        places = self.sight.cell_of(self.standing.position(deal))
        return tuple(self.standing.deals[place] for place in places)

    def parts(self, sight, deals):
        """Return the parts of a set of deals in a sight."""
        marks = [sight.marks[self.standing.position(deal)] for deal in deals]
        return [tuple(deal for deal, other in zip(deals, marks) if other == mark) for mark in sorted(set(marks))]

    def sets(self, deals):
        """Return all sets that can arise from one."""
        found = {deals}
        for sight, _ in self.questions:
            for part in self.parts(sight, deals):
                if part not in found:
                    found |= self.sets(part)
        return found

    def offers(self, deals):
        """Return for each question that splits the set its index and its cost, or None."""
        found = []
        for index, (sight, price) in enumerate(self.questions):
            parts = self.parts(sight, deals)
            if len(parts) > 1:
                costs = [self.cost(part) for part in parts]
                found.append((index, None if None in costs else price + self.to_come(parts, costs)))
        return found

    def to_come(self, parts, costs):
        """Return the cost still to come, from the costs of the parts."""
        if self.worst:
            return max(costs)
        heavy = [sum(self.weights[deal] for deal in part) for part in parts]
        return sum(Fraction(weight) * cost for weight, cost in zip(heavy, costs)) / sum(heavy)

    def known(self, deals):
        """Tell whether the target is known at a set."""
        return len(self.parts(self.target, deals)) == 1

    def cost(self, deals):
        """Return the cost of a set, or None."""
        if self.known(deals):
            return Fraction(0)
        return min((cost for _, cost in self.offers(deals) if cost is not None), default=None)

    def choice(self, deals):
        """Return the least index of a question with which the cost of the set is had, or None."""
        cost = self.cost(deals)
        if cost is None or self.known(deals):
            return None
        return min(index for index, offer in self.offers(deals) if offer == cost)

    def table(self, deals):
        """Return the whole table of an asking."""
        rows = sorted(self.sets(deals), key=lambda row: (-len(row), row))
        return tuple((row, self.choice(row), as_pair(self.cost(row))) for row in rows)

    def stuck(self, deals):
        """Return the first pair that no question parts, but the target does."""
        for one in deals:
            for two in deals:
                places = self.standing.position(one), self.standing.position(two)
                if one < two and not self.target.alike(*places) and all(
                        sight.alike(*places) for sight, _ in self.questions):
                    return one, two
        return None

    def is_floor(self, deals, rows):
        """Tell whether a table bounds the asking from below, by the words of point 95."""
        costs = {tuple(row): Fraction(*cost) for row, cost in rows}
        if len(costs) < len(rows) or deals not in costs or any(cost < 0 for cost in costs.values()):
            return False
        for row, cost in costs.items():
            if self.known(row):
                if cost != 0:
                    return False
                continue
            for sight, price in self.questions:
                parts = self.parts(sight, row)
                if len(parts) > 1:
                    if any(part not in costs for part in parts):
                        return False
                    if cost > price + self.to_come(parts, [costs[part] for part in parts]):
                        return False
        return True


def as_pair(cost):
    """Return a fraction as a ratio; None stays None."""
    return None if cost is None else (cost.numerator, cost.denominator)


def random_asking(chance):
    """Return a random standing, questions and target."""
    standing = random_standing(chance, most=7, parties="ab")
    marks = [chance.randint(0, 1) * chance.randint(0, 1) for _ in standing]
    standing = standing.without_party("a").with_party("a", marks, weights=standing.weights("a"))
    choices = [F, G, View.eyes("b"), View.whether(Claim.fact("f", 1)), View.whether(Claim.fact("g", 0)), F & G]
    questions = []
    for _ in range(chance.randint(0, 5)):
        view = chance.choice(choices) if chance.random() < 0.8 else random_view(chance, 1, "ab")
        questions.append([view, chance.choice([1, 1, 2, 3, 7])])
    target = chance.choice([F, G, F, random_view(chance, 1, "ab"), F & G])
    return standing, questions, target


class AskingTest(Fails, unittest.TestCase):
    def check(self, standing, questions, target, deal, worst):
        """Check what least_asking returns against the words of the points, and return it."""
        plain = Plain(standing, "a", questions, target, worst)
        cell = plain.cell(deal)
        found = least_asking(standing, "a", questions, target, deal, worst=worst)
        self.assertEqual(found.cost, as_pair(plain.cost(cell)))
        self.assertEqual(found.table, plain.table(cell))
        self.assertEqual(found.stuck, plain.stuck(cell) if found.cost is None else None)
        self.assertIs(found.cost is None, found.stuck is not None)
        self.assert_tuples((found.cost, found.table, found.stuck))
        return found

    def test_examples(self):
        questions = [(View.whether(Claim.fact("f", 0)), 2), [G, 3], (View.whether(Claim.fact("f", 2)), 2)]
        found = self.check(table(), questions, F, 3, False)
        self.assertEqual((found.cost, found.table[0]), ((47, 10), ((0, 2, 3, 5), 2, (47, 10))))
        found = self.check(table(), questions, F, 0, True)
        self.assertEqual((found.cost, found.table[0][1]), ((5, 1), 1))
        # The default is the mean.
        self.assertEqual(least_asking(table(), "a", questions, F, 3).cost, (47, 10))
        found = self.check(table(), questions, F, 8, False)
        self.assertEqual((found.cost, found.table), ((0, 1), (((8,), None, (0, 1)),)))
        found = self.check(table(), questions[1:2], F, 5, False)
        self.assertEqual((found.cost, found.stuck), (None, (0, 2)))
        found = self.check(table(), [], F, 0, True)
        self.assertEqual((found.table, found.stuck), ((((0, 2, 3, 5), None, None),), (0, 2)))
        self.assertEqual(self.check(table(), [], A, 0, True).cost, (0, 1))
        # A question that splits nothing is no help, and of equal ones the first is asked.
        found = self.check(table(), [(A, 1), (F, 5), (F, 4), (F, 4)], F, 0, False)
        self.assertEqual(found.table[0], ((0, 2, 3, 5), 2, (4, 1)))

    def test_against_the_words(self):
        chance = random.Random(94)
        count = {True: 0, False: 0}
        for _ in range(250):
            standing, questions, target = random_asking(chance)
            for worst in (False, True):
                found = self.check(standing, questions, target, chance.choice(standing.deals), worst)
                count[found.cost is None] += 1
        self.assertGreater(min(count.values()), 60)

    def check_floor(self, standing, questions, target, deal, rows, worst):
        """Check is_floor against the words of point 95, and return its answer."""
        plain = Plain(standing, "a", questions, target, worst)
        expected = plain.is_floor(plain.cell(deal), rows)
        found = is_floor(standing, "a", questions, target, deal, rows, worst=worst)
        self.assertIs(found, expected)
        return found

    def test_floor_examples(self):
        questions = [(View.whether(Claim.fact("f", 0)), 2), [G, 3], (View.whether(Claim.fact("f", 2)), 2)]
        rows = [(deals, cost) for deals, _, cost in least_asking(table(), "a", questions, F, 3).table]
        self.assertIs(self.check_floor(table(), questions, F, 3, rows, False), True)
        self.assertIs(is_floor(table(), "a", questions, F, 3, rows), True)
        high = [(deals, cost) for deals, _, cost in least_asking(table(), "a", questions, F, 3, worst=True).table]
        self.assertIs(self.check_floor(table(), questions, F, 3, high, True), True)
        self.assertIs(is_floor(table(), "a", questions, F, 3, high), False)
        self.assertIs(self.check_floor(table(), questions, F, 3, [[list(row), [3 * c for c in cost]]
                                                                for row, cost in rows][::-1], False), True)
        self.assertIs(self.check_floor(table(), questions, F, 8, rows, False), False)
        self.assertIs(self.check_floor(table(), questions, F, 8, [((8,), (0, 7))], False), True)
        self.assertIs(self.check_floor(table(), questions, F, 8, [((8,), (1, 7))], False), False)
        self.assertIs(self.check_floor(table(), questions, F, 8, [((8,), (0, 1)), ((8,), (0, 1))], False), False)
        self.assertIs(self.check_floor(table(), questions, F, 8, [((8,), (0, 1)), ((2, 8), (2, 1))], False), False)
        self.assertIs(self.check_floor(table(), [], F, 8, [((8,), (0, 1)), ((2, 8), (2, 1))], False), True)
        self.assertIs(self.check_floor(table(), [], F, 8, [((8,), (0, 1)), ((2, 8), (-2, 1))], False), False)
        self.assertIs(self.check_floor(table(), questions, F, 8, [], True), False)

    def test_floors_against_the_words(self):
        chance = random.Random(95)
        count = {True: 0, False: 0}
        for _ in range(300):
            standing, questions, target = random_asking(chance)
            deal, worst = chance.choice(standing.deals), chance.random() < 0.5
            found = least_asking(standing, "a", questions, target, deal, worst=worst).table
            rows = [(deals, (50, 1) if cost is None else cost) for deals, _, cost in found]
            for _ in range(6):
                count[self.check_floor(standing, questions, target, deal, rows, worst)] += 1
                place = chance.randrange(len(rows))
                deals, cost = rows[place]
                change = Fraction(*cost) + Fraction(chance.choice([-1, -1, 1]), chance.randint(1, 9))
                kind = chance.randint(0, 4)
                if kind < 2:
                    rows[place] = (deals, as_pair(change))
                elif kind == 2 and len(rows) > 1:
                    del rows[place]
                elif kind == 3:
                    rows.append(chance.choice([(deals, cost), (standing.deals[-2:], (0, 1))]))
                else:
                    rows[place] = (list(deals), (cost[0] * 2, cost[1] * 2))
        self.assertGreater(min(count.values()), 150)

    def test_errors(self):
        bad = View.eyes("q") & View.value("x")
        questions = [(F, 1), (bad, 1)]
        for call in (lambda *given: least_asking(*given), lambda *given: is_floor(*given, [])):
            self.assert_error(UnknownParty, {"name": "p"}, call, table(), "p", questions, bad, 1)
            self.assert_error(UnknownParty, {"name": "q"}, call, table(), "a", questions, View.value("y"), 1)
            self.assert_error(UnknownFact, {"name": "x"}, call, table(), "a", [(View.value("x"), 1)] + questions, bad, 1)
            self.assert_error(UnknownFact, {"name": "y"}, call, table(), "a", questions[:1], View.value("y"), 1)
            self.assert_error(UnknownDeal, {"deal": 1}, call, table(), "a", questions[:1], F, 1)

    def test_largest(self):
        start = time.time()
        size = 2000
        standing = Standing(size).with_fact("f", [deal % 10 for deal in range(size)])
        for index in range(3):
            standing = standing.with_fact(f"g{index}", [deal >> index & 1 for deal in range(size)])
        standing = standing.with_party("a", [deal // 8 for deal in range(size)], weights=[
            1 + deal * 37 % 999 for deal in range(size)])
        questions = [(View.whether(Claim.fact("f", digit)), 90 + digit) for digit in range(3)]
        questions += [(View.value(f"g{index}"), 99 - index) for index in range(3)]
        for worst in (False, True):
            found = least_asking(standing, "a", questions, F, 1000, worst=worst)
            self.assertGreater(len(found.table), 40)
            rows = [(deals, cost) for deals, _, cost in found.table]
            self.assertIs(is_floor(standing, "a", questions, F, 1000, rows, worst=worst), True)
            self.assertLess(Fraction(*found.cost), 3 * 99)
        self.assertLess(time.time() - start, 10)


if __name__ == "__main__":
    unittest.main()
