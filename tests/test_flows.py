"""Points 18 and 120 to 122: the best that a team can do, and flows that show it."""

import random
import time
import unittest

from manysights.claims import Claim
from manysights.errors import UnknownFact, UnknownParty
from manysights.flows import best_team, flow_bound, team_total
from manysights.meanings import holds
from manysights.standings import Standing
from tests.helpers import Fails, random_claim, random_standing
from tests.test_teams import act_at, all_rules

ALL, ONE, TWO = Claim.always(), Claim.fact("f", 1), Claim.fact("f", 2)


def table():
    """Return a standing with gaps and weights."""
    made = Standing(8).only([0, 3, 4, 7]).with_fact("f", [0, 1, 2, 1])
    made = made.with_party("a", [0, 0, 1, 1], weights=[1, 2, 3, 4])
    return made.with_party("b", [0, 1, 1, 2])


def plain_total(standing, judge, hopes, ties, rule):
    """Return the total of a rule, by the words of point 120."""
    total = 0
    for deal, weight in zip(standing, standing.weights(judge)):
        for claim, (name, act), number in hopes:
            if holds(standing, claim, deal) and act_at(standing, rule, name, deal) == act:
                total += number * weight
        for claim, one, two, number in ties:
            if holds(standing, claim, deal) and act_at(standing, rule, one, deal) == act_at(standing, rule, two, deal):
                total += number * weight
    return total


def plain_pull(standing, judge, hopes, cell, act):
    """Return the pull of a cell to an act, by the words of point 122."""
    name, mark = cell
    weights = standing.weights(judge)
    return sum(number * weights[place] for claim, side, number in hopes for place, deal in enumerate(standing)
               if tuple(side) == (name, act) and standing.sight(name).marks[place] == mark
               and holds(standing, claim, deal))


def plain_bond(standing, judge, ties, one, two):
    """Return the bond of two cells, by the words of point 122."""
    weights = standing.weights(judge)
    return sum(number * weights[place] for claim, first, second, number in ties for place, deal in enumerate(standing)
               if {first, second} == {one[0], two[0]} and holds(standing, claim, deal)
               and standing.sight(one[0]).marks[place] == one[1]
               and standing.sight(two[0]).marks[place] == two[1])


def plain_bound(standing, judge, hopes, ties, flow):
    """Return the bound of a flow or None, by the words of point 122."""
    cells = [(name, mark) for name in standing.parties for mark in range(len(standing.sight(name).cells))]
    ends = [tuple(end) if isinstance(end, list) else end for first, second, _ in flow for end in (first, second)]
    rows = [(ends[2 * k], ends[2 * k + 1], triple[2]) for k, triple in enumerate(flow)]
    pairs = [row[:2] for row in rows]
    kept = {cell: 0 for cell in cells}
    for first, second, amount in rows:
        if amount < 1 or (first not in cells and first != "one") or (second not in cells and second != "zero"):
            return None
        if (first, second) == ("one", "zero") or pairs.count((first, second)) > 1 or (second, first) in pairs:
            return None
        if first == "one":
            most = plain_pull(standing, judge, hopes, second, 1)
        elif second == "zero":
            most = plain_pull(standing, judge, hopes, first, 0)
        else:
            most = plain_bond(standing, judge, ties, first, second) if first[0] != second[0] else 0
        if amount > most:
            return None
        if first != "one":
            kept[first] -= amount
        if second != "zero":
            kept[second] += amount
    if any(kept.values()):
        return None
    whole = sum(plain_pull(standing, judge, hopes, cell, act) for cell in cells for act in (0, 1))
    whole += sum(plain_bond(standing, judge, ties, one, two) for place, one in enumerate(cells)
                 for two in cells[:place] if one[0] != two[0])
    return whole - sum(amount for first, _, amount in rows if first == "one")


def random_wants(chance, parties="ab"):
    """Return random hopes and ties."""
    def claim():
        return chance.choice([ALL, ONE, TWO, random_claim(chance, 1, parties)])
    hopes = [[claim(), [chance.choice(parties), chance.randint(0, 1)], chance.randint(0, 9)]
             for _ in range(chance.randint(0, 6))]
    ties = []
    for _ in range(chance.randint(1, 4) if len(parties) > 1 else 0):
        one, two = chance.sample(parties, 2)
        ties.append((claim(), one, two, chance.randint(0, 9)))
    return hopes, ties


def small_team(chance, parties):
    """Return a random standing with few cells."""
    while True:
        standing = random_standing(chance, most=5, parties=parties)
        if sum(len(standing.sight(name).cells) for name in parties) <= 9:
            return standing


class FlowsTest(Fails, unittest.TestCase):
    def check(self, standing, judge, hopes, ties):
        """Check best_team against a walk over all rules and the words of the points, and return it."""
        totals = {rule: plain_total(standing, judge, hopes, ties, rule) for rule in all_rules(standing)}
        best = [rule for rule in totals if totals[rule] == max(totals.values())]
        ones = [[act for _, acts in rule for act in acts] for rule in best]
        both = [min(column) for column in zip(*ones)]
        found = best_team(standing, judge, hopes, ties)
        self.assert_tuples((found.rule, found.flow))
        self.assertEqual(found.total, max(totals.values()))
        self.assertIn(found.rule, best)
        self.assertEqual([act for _, acts in found.rule for act in acts], both)
        self.assertEqual(plain_bound(standing, judge, hopes, ties, found.flow), found.total)
        self.assertEqual(flow_bound(standing, judge, hopes, ties, found.flow), found.total)
        for rule in list(totals)[:20]:
            self.assertEqual(team_total(standing, judge, hopes, ties, rule), totals[rule])
        return found

    def test_examples(self):
        found = self.check(table(), "a", [], [])
        self.assertEqual((found.total, found.rule, found.flow), (0, (("a", (0, 0)), ("b", (0, 0, 0))), ()))
        hopes = [(ONE, ("a", 1), 5), [TWO, ["a", 0], 7]]
        found = self.check(table(), "a", hopes, [])
        self.assertEqual((found.total, found.rule), (10 + 21, (("a", (1, 0)), ("b", (0, 0, 0)))))
        # The weights of the judge count: for b all deals weigh the same.
        self.assertEqual(self.check(table(), "b", hopes, []).rule[0], ("a", (1, 0)))
        found = self.check(table(), "b", hopes + [(ONE, ("a", 1), 2)], [])
        # Where both acts are as good, act 0 is done.
        self.assertEqual((found.total, found.rule), (14, (("a", (1, 0)), ("b", (0, 0, 0)))))
        found = self.check(table(), "b", [(ONE, ("a", 1), 1), (ONE, ("b", 0), 9)], [(ALL, "b", "a", 1)])
        self.assertEqual(found.total, 18 + 4)
        found = self.check(table(), "b", [(ONE, ("a", 1), 3), (ONE, ("b", 0), 1)], [(ALL, "b", "a", 1)])
        self.assertEqual((found.total, found.rule), (6 + 4, (("a", (1, 1)), ("b", (1, 1, 0)))))
        self.assertEqual(self.check(table(), "b", [], [(ALL, "a", "b", 99)] * 6).total, 6 * 99 * 4)

    def test_against_all_rules(self):
        chance = random.Random(121)
        flows = 0
        for _ in range(600):
            parties = chance.choice(["ab", "abc", "b"])
            standing = small_team(chance, parties)
            found = self.check(standing, chance.choice(parties), *random_wants(chance, parties))
            flows += any(first != "one" and second != "zero" for first, second, _ in found.flow)
        self.assertGreater(flows, 60)

    def test_no_rules(self):
        rule = (("a", (1, 0)), ("b", (0, 0, 1)))
        hopes, ties = [(ALL, ("a", 1), 1), (ALL, ("b", 1), 10)], [(ALL, "a", "b", 100)]
        self.assertEqual(team_total(table(), "a", hopes, ties, rule), 3 + 40 + 300)
        self.assertEqual(team_total(table(), "b", hopes, ties, [[name, list(acts)] for name, acts in rule]), 112)
        for spoilt in (
            (), rule[:1], rule + rule, rule[::-1], (rule[0], ("c", (0, 0, 1))), (rule[0], ()), (("a", (1,)), rule[1]),
            (("a", (2, 0)), rule[1]), (("a", (1, 0, 0)), rule[1]), (("a",), rule[1]), (("a", (1, 0), 0), rule[1]),
        ):
            self.assertIsNone(team_total(table(), "a", hopes, ties, spoilt))

    def test_no_flows(self):
        hopes, ties = [(ALL, ("a", 1), 2), (ALL, ("b", 0), 1)], [(ALL, "b", "a", 3)]
        # For b: 4 from one to each cell of a, 3 between cells at a deal, and 1 or 2 from each cell of b to zero.
        whole = 8 + 4 + 12
        flow = (("one", ("a", 0), 3), (("a", 0), ("b", 0), 1), [["a", 0], ["b", 1], 2], (("b", 0), "zero", 1),
                (("b", 1), "zero", 2))
        call = lambda rows: flow_bound(table(), "b", hopes, ties, rows)
        self.assertEqual(call(flow), whole - 3)
        self.assertEqual(call([]), whole)
        self.assertEqual(call(flow[::-1]), whole - 3)
        one, first, second, third, fourth = flow
        for spoilt in (
            flow[1:], flow[:4], flow + flow, flow + (one,), (("one", ("a", 0), 4),) + flow[1:],
            (("one", ["a", 0], 3),) + flow, (("one", ("a", 2), 3),) + flow[1:], (("one", ("c", 0), 3),) + flow[1:],
            (("one", ("a", -1), 3),) + flow[1:], (("two", ("a", 0), 3),) + flow[1:], (("zero", ("a", 0), 3),) + flow[1:],
            flow[:3] + ((("b", 0), "one", 1), fourth), flow[:3] + ((("b", 0), "", 1), fourth),
            flow + (("one", "zero", 1),), flow + ((("b", 1), ("a", 0), 0),), flow + ((("b", 2), ("b", 2), 1),),
            flow + ((("b", 0), ("a", 0), 1), (("a", 0), ("b", 0), 1)), flow + ((("a", 0), ("a", 1), 0),),
            (("one", ("a", 0), 9), (("a", 0), ("b", 0), 9), (("b", 0), "zero", 9)),
            (("one", ("a", 0), 0),), (("one", ("a", 0), -1), (("a", 0), "zero", -1)),
            (("one", ("a", 0), 10**30),) + flow[1:], (("one", ("a", 10**30), 3),) + flow[1:],
            (("one", ("b", 0), 1), (("b", 0), "zero", 1)), (("one", ("a", 1), 1), (("a", 1), "zero", 1)),
            # Amounts against each other between two cells.
            (("one", ("a", 0), 3), (("a", 0), ("b", 0), 2), (("b", 0), ("a", 0), 1)) + flow[2:],
        ):
            self.assertIsNone(call(spoilt), spoilt)
        # No number that is not one of a cell stands for another cell, or for an end.
        self.assertEqual(call((("one", ("a", 1), 1), (("a", 1), ("b", 1), 1), (("b", 1), "zero", 1))), whole - 1)
        self.assertIsNone(call((("one", ("b", -1), 1), (("b", -1), ("b", 1), 1), (("b", 1), "zero", 1))))
        self.assertIsNone(call((("one", ("a", 1), 1), (("a", 1), ("a", 3), 1), (("a", 3), "zero", 1))))
        self.assertIsNone(flow_bound(table(), "b", [(ALL, ("b", 1), 9)], [], [("one", "zero", 1)]))
        self.assertIsNone(flow_bound(table(), "b", [(ALL, ("b", 0), 9)], [], [(("a", -1), "zero", 1)]))
        # What goes around is kept in each cell.
        around = ((("a", 0), ("b", 1), 1), (("b", 1), ("a", 1), 1))
        self.assertIsNone(call(around))
        three = table().with_party("c", [0, 0, 0, 0])
        ties = ties + [(ALL, "a", "c", 1), (ALL, "b", "c", 1)]
        around = ((("a", 0), ("b", 1), 1), (("b", 1), ("c", 0), 1), (("c", 0), ("a", 0), 1))
        self.assertEqual(flow_bound(three, "b", [], ties, around), 12 + 4 + 4)
        self.assertIsNone(flow_bound(three, "b", [], ties[:2], around))

    def test_flows_against_the_words(self):
        chance = random.Random(122)
        count = {True: 0, False: 0}
        for _ in range(700):
            parties = chance.choice(["ab", "abc"])
            standing, judge = small_team(chance, parties), chance.choice(parties)
            hopes, ties = random_wants(chance, parties)
            rows = [list(triple) for triple in best_team(standing, judge, hopes, ties).flow]
            for _ in range(4):
                kind = chance.randint(0, 4)
                if rows and kind == 0:
                    rows[chance.randrange(len(rows))][2] += chance.choice([1, -1])
                elif rows and kind == 1:
                    del rows[chance.randrange(len(rows))]
                elif rows and kind == 2:
                    row = chance.choice(rows)
                    row[chance.randint(0, 1)] = (chance.choice(parties + "q"), chance.randint(0, 2))
                elif rows and kind == 3:
                    # Less along a whole way keeps it a flow.
                    rows = [row for row in rows if row[0] == "one" or row[1] == "zero" or chance.random() < 0.8]
                else:
                    cell = (chance.choice(parties), chance.randint(0, 1))
                    rows += [["one", cell, 1], [cell, "zero", 1]]
                found = flow_bound(standing, judge, hopes, ties, rows)
                self.assertEqual(found, plain_bound(standing, judge, hopes, ties, rows))
                count[found is None] += 1
        self.assertGreater(min(count.values()), 70)

    def test_errors(self):
        bad = Claim.fact("x", 1)
        calls = (best_team, lambda *given: team_total(*given, ()), lambda *given: flow_bound(*given, ()))
        for call in calls:
            self.assert_error(UnknownParty, {"name": "j"}, call, table(), "j", [(bad, ("q", 1), 1)], [(bad, "p", "q", 1)])
            self.assert_error(UnknownFact, {"name": "x"}, call, table(), "a", [(bad, ("q", 1), 1)], [(ALL, "p", "q", 1)])
            self.assert_error(UnknownParty, {"name": "q"}, call, table(), "a", [(ALL, ("a", 1), 1), (ALL, ("q", 1), 1)],
                              [(bad, "p", "q", 1)])
            self.assert_error(UnknownFact, {"name": "x"}, call, table(), "a", [], [(bad, "p", "q", 1)])
            self.assert_error(UnknownParty, {"name": "p"}, call, table(), "a", [], [(ALL, "p", "q", 1)])
            self.assert_error(UnknownParty, {"name": "q"}, call, table(), "a", [], [(ALL, "b", "q", 1)])

    def test_largest(self):
        start = time.time()
        chance, size = random.Random(120), 2000
        claims = [Claim.fact(name, digit) for name in "fg" for digit in range(4)]
        heavy = [chance.randint(1, 999) for _ in range(size)]
        plain = Standing(size).with_fact("f", [chance.randint(0, 9) for _ in range(size)])
        plain = plain.with_fact("g", [min(deal // 500, 9) for deal in range(size)])
        hopes = [(claim, ("abcdef"[index % 6], index % 2), 99 - index) for index, claim in enumerate(claims)]
        ties = [(ALL, one, two, 99) for one, two in ("ab", "bc", "cd", "de", "ef", "fa")]
        for width in (1, 2, 7, 2000):
            made = plain
            for index, name in enumerate("abcdef"):
                made = made.with_party(name, [(deal + index) // width for deal in range(size)], weights=heavy)
            found = best_team(made, "c", hopes, ties)
            self.assertEqual(team_total(made, "c", hopes, ties, found.rule), found.total)
            self.assertEqual(flow_bound(made, "c", hopes, ties, found.flow), found.total)
        # A long line of cells, from one end of which everything flows to the other end.
        line = plain.with_party("a", [deal // 2 for deal in range(size)])
        line = line.with_party("b", [(deal + 1) // 2 for deal in range(size)])
        hopes = [(Claim.fact("g", 0), ("a", 1), 1), (Claim.fact("g", 1), ("a", 1), 1),
                 (Claim.fact("g", 2), ("a", 0), 1), (Claim.fact("g", 3), ("a", 0), 1)]
        found = best_team(line, "a", hopes, ties[:1] * 6)
        self.assertEqual(found.total, 2000 + 1999 * 6 * 99)
        self.assertEqual(flow_bound(line, "a", hopes, ties[:1] * 6, found.flow), found.total)
        self.assertLess(time.time() - start, 30)


if __name__ == "__main__":
    unittest.main()
