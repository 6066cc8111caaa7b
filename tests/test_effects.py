"""Points 18 and 39: questions about deeds."""

import random
import unittest

from manysights.claims import Claim
from manysights.deeds import Deed
from manysights.effects import is_idle, learners, losers, needed_deeds, same_effect
from manysights.errors import NotPossible, UnknownFact, UnknownParty
from manysights.standings import Standing
from manysights.views import View
from tests.helpers import Fails, meant_after, random_deed, random_standing

A, F = View.eyes("a"), View.value("f")
NEVER = Deed.call(~Claim.always())


def told_apart(standing, name, one, two):
    """Tell whether the party tells two open deals apart."""
    return not standing.sight(name).alike(standing.position(one), standing.position(two))


def changes(standing, end, name):
    """Return whether the party tells some pair apart only after, and only before a deed."""
    pairs = [(one, two) for one in end for two in end]
    before = [told_apart(standing, name, one, two) for one, two in pairs]
    later = [told_apart(end, name, one, two) for one, two in pairs]
    return (any(new and not old for old, new in zip(before, later)),
            any(old and not new for old, new in zip(before, later)))


class EffectsTest(Fails, unittest.TestCase):
    def test_against_the_words(self):
        chance = random.Random(39)
        seen = [0, 0, 0, 0]
        for _ in range(900):
            standing = random_standing(chance, most=5)
            one = random_deed(chance, chance.randint(0, 2))
            two = chance.choice([random_deed(chance, 1), one, Deed.row([one, one]), Deed.row([NEVER, one])])
            end, index = meant_after(standing, one)
            other, _ = meant_after(standing, two)
            same = end == other if end is not None and other is not None else end is other
            self.assertIs(same_effect(standing, one, two), same)
            if end is None:
                for call in (learners, losers, is_idle):
                    self.assert_error(NotPossible, {"index": index}, call, standing, one)
                continue
            found = [(name, *changes(standing, end, name)) for name in standing.parties]
            self.assertEqual(learners(standing, one), tuple(name for name, new, _ in found if new))
            self.assertEqual(losers(standing, one), tuple(name for name, _, lost in found if lost))
            self.assertIs(is_idle(standing, one), end == standing)
            seen[0] += end == standing
            seen[1] += same
            seen[2] += any(new for _, new, _ in found)
            seen[3] += any(lost for _, _, lost in found)
        self.assertGreater(min(seen), 20)

    def test_learning_and_losing_at_once(self):
        standing = Standing(4).with_fact("f", [0, 0, 1, 1]).with_party("b", [0] * 4).with_party("a", [0, 1, 0, 1])
        row = Deed.forget("a", View.whether(Claim.always())) >> Deed.show([("a", F)])
        self.assertEqual(learners(standing, row), ("a",))
        self.assertEqual(losers(standing, row), ("a",))
        everyone = Deed.announce(F)
        self.assertEqual(learners(standing, everyone), ("b", "a"))
        self.assertEqual(losers(standing, everyone), ())
        # What a call closes is neither learned nor lost.
        self.assertEqual(learners(standing, Deed.call(Claim.fact("f", 0))), ())
        self.assertIs(is_idle(standing, Deed.call(Claim.fact("f", 0))), False)
        self.assertIs(is_idle(standing, Deed.call(Claim.always())), True)
        self.assertIs(is_idle(standing, Deed.row([])), True)

    def test_same_effect(self):
        standing = Standing(2).with_fact("f", [0, 1]).with_party("a", [0, 0])
        self.assertIs(same_effect(standing, NEVER, NEVER >> Deed.announce(F)), True)
        self.assertIs(same_effect(standing, NEVER, Deed.row([])), False)
        self.assertIs(same_effect(standing, Deed.row([]), NEVER), False)
        self.assertIs(same_effect(standing, Deed.announce(F), Deed.show([("a", F)])), True)
        one, two = Deed.call(Claim.fact("f", 0)), Deed.call(Claim.fact("f", 1))
        self.assertIs(same_effect(standing, one, two), False)

    def test_needed_deeds(self):
        standing = Standing(4).with_fact("f", [0, 0, 1, 1]).with_party("a", [0] * 4).with_party("b", [0] * 4)
        deeds = [Deed.row([]), Deed.show([("a", F)]), Deed.announce(F), Deed.announce(F), Deed.forget("a", F),
                 Deed.change([("f", [(Claim.always(), 3)])]), Deed.announce(F)]
        self.assertEqual(needed_deeds(standing, deeds), (1, 2, 5))
        self.assertEqual(needed_deeds(standing, []), ())
        # The index is that of the sequence, not that of single deeds.
        deeds = [Deed.announce(F) >> Deed.announce(F), Deed.row([Deed.announce(F), NEVER]), Deed.announce(F)]
        self.assert_error(NotPossible, {"index": 1}, needed_deeds, standing, deeds)
        chance = random.Random(40)
        for _ in range(300):
            start = standing = random_standing(chance, most=5)
            deeds = [random_deed(chance, 1) for _ in range(chance.randint(0, 4))]
            needed, wrong = [], None
            for index, deed in enumerate(deeds):
                end, _ = meant_after(standing, deed)
                if end is None:
                    wrong = index
                    break
                needed += [index] if end != standing else []
                standing = end
            if wrong is not None:
                self.assert_error(NotPossible, {"index": wrong}, needed_deeds, start, deeds)
            else:
                self.assertEqual(needed_deeds(start, deeds), tuple(needed))

    def test_names(self):
        standing = Standing(2).with_fact("f", [0, 1]).with_party("a", [0, 0])
        for call in (learners, losers, is_idle):
            self.assert_error(UnknownParty, {"name": "q"}, call, standing, NEVER >> Deed.forget("q", View.value("z")))
        wrong = Deed.announce(View.value("z"))
        hidden = NEVER >> Deed.forget("q", F)
        self.assert_error(UnknownParty, {"name": "q"}, same_effect, standing, hidden, NEVER)
        self.assert_error(UnknownParty, {"name": "q"}, same_effect, standing, NEVER, hidden)
        self.assert_error(UnknownFact, {"name": "z"}, same_effect, standing, NEVER, wrong)
        self.assert_error(UnknownFact, {"name": "z"}, same_effect, standing, wrong, Deed.forget("q", F))
        self.assert_error(UnknownFact, {"name": "z"}, needed_deeds, standing, [NEVER, wrong, Deed.forget("q", F)])


if __name__ == "__main__":
    unittest.main()
