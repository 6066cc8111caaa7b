"""Point 33: shortest forms of plain views."""

import itertools
import random
import time
import unittest

from manysights.errors import NotPlain
from manysights.orders import always_alike, always_tells
from manysights.shortest import is_shortest, needed_parties, shortest
from manysights.views import View
from tests.helpers import NOT_PLAIN, Fails, random_plain, view_from

A, B, C = View.eyes("a"), View.eyes("b"), View.eyes("c")


def eyes_in(parts):
    """Return the number of eyes in a plain view."""
    return 1 if parts[0] == "eyes" else sum(eyes_in(member) for member in parts[1])


def written(parts):
    """Return the written form of a plain view (point 107)."""
    if parts[0] == "eyes":
        return f"eyes({parts[1]})"
    sign = " & " if parts[0] == "pooled" else " | "
    return "(" + sign.join(written(member) for member in parts[1]) + ")"


def tells(one, two):
    """Tell whether one view always tells another one, both given by their parts."""
    return always_tells(view_from(one), view_from(two)).tells


def in_form(parts):
    """Tell whether a plain view is in shortest form, by the words of point 33."""
    if parts[0] == "eyes":
        return True
    members = list(parts[1])
    if not all(in_form(member) and member[0] != parts[0] for member in members):
        return False
    if members != sorted(members, key=lambda member: (eyes_in(member), written(member))):
        return False
    if any(tells(one, two) for one, two in itertools.permutations(members, 2)):
        return False
    inner = [part for member in members if member[0] != "eyes" for part in member[1]]
    if parts[0] == "pooled":
        return not any(tells(parts, part) for part in inner)
    return not any(tells(part, parts) for part in inner)


def views_with(eyes, names):
    """Return all plain views with so many eyes in which each joining has two members."""
    if eyes == 1:
        return [View.eyes(name) for name in names]
    found = []
    for left in range(1, eyes):
        for one in views_with(left, names):
            for two in views_with(eyes - left, names):
                found.extend((one & two, one | two))
    return found


class ShortestTest(Fails, unittest.TestCase):
    def test_simple(self):
        rows = [
            (A, A), (A & A, A), (B & A, A & B), (A | (A & B), A), (A & (B | A), A), ((A & B) & C, View.pooled([A, B, C])),
            (C | (B | A), View.common([A, B, C])), (View.pooled([A, B, A, B]), A & B),
            (A & (B | (A & C)), A & (B | (A & C))), ((B | A) & C, C & (A | B)),
            ((A & B) | (A & C) | A, A), (A & (A | B) & (A | C), A),
            (View.common([A & (B | C), B]), B | (A & (B | C))),
            (View.common([A & (B | C), B, C]), B | C),
            (View.pooled([A | (B & C), B, C]), B & C),
            (View.eyes("a9") & View.eyes("a10"), View.eyes("a10") & View.eyes("a9")),
            ((A & B) | (C & B), (A & B) | (B & C)),
        ]
        for view, expected in rows:
            found = shortest(view)
            self.assertEqual(found.parts, expected.parts, view.parts)
            self.assertIsInstance(found, View)
            self.assert_tuples(found.parts)
            self.assertIs(is_shortest(expected), True)
            self.assertIs(is_shortest(view), view == expected)

    def test_order_of_members(self):
        view = View.pooled([(A | B) | C, B | C, A | B, View.eyes("d")])
        self.assertEqual(shortest(view), View.pooled([View.eyes("d"), A | B, B | C]))
        view = View.common([(B & C) & View.eyes("d"), (A | C) & B, A & (B | C)])
        self.assertEqual(shortest(view).parts, View.common([A & (B | C), B & (A | C)]).parts)
        mixed = View.pooled([View.eyes("b") | View.eyes("c"), View.eyes("z"), View.eyes("b1") | View.eyes("c")])
        self.assertEqual([written(part) for part in shortest(mixed).parts[1]],
                         ["eyes(z)", "(eyes(b) | eyes(c))", "(eyes(b1) | eyes(c))"])

    def test_order_of_written_forms(self):
        d, e = View.eyes("d"), View.eyes("e")
        flat, nested = View.common([A, d, e]), A | (B & C)
        self.assertEqual(shortest(flat & nested).parts, (nested & flat).parts)
        self.assertEqual(shortest(nested & flat).parts, (nested & flat).parts)
        flat, nested = View.pooled([A, d, e]), A & (B | C)
        self.assertEqual(shortest(flat | nested).parts, (nested | flat).parts)
        self.assertIs(is_shortest(flat | nested), False)

    def test_against_the_words(self):
        chance = random.Random(24)
        for _ in range(800):
            view = random_plain(chance, chance.randint(1, 8), "abcd"[:chance.randint(1, 4)])
            found = shortest(view)
            self.assertTrue(in_form(found.parts), view.parts)
            self.assertTrue(always_alike(view, found))
            self.assertLessEqual(eyes_in(found.parts), eyes_in(view.parts))
            self.assertIs(is_shortest(view), in_form(view.parts))
            self.assertIs(is_shortest(found), True)
            self.assertEqual(shortest(found), found)
            names = sorted(name for name in "abcd" if f"eyes({name})" in written(found.parts))
            self.assertEqual(needed_parties(view), tuple(names))

    def test_unique(self):
        forms = {}
        views = [view for eyes in range(1, 5) for view in views_with(eyes, "ab")]
        for view in views:
            forms.setdefault(written(shortest(view).parts), []).append(view)
        self.assertEqual(sorted(forms), ["(eyes(a) & eyes(b))", "(eyes(a) | eyes(b))", "eyes(a)", "eyes(b)"])
        three = [view for eyes in range(1, 4) for view in views_with(eyes, "abc")]
        found = {}
        for view in three:
            found.setdefault(written(shortest(view).parts), view)
        for one, two in itertools.combinations(found.values(), 2):
            self.assertFalse(always_alike(one, two))

    def test_needed_parties(self):
        self.assertEqual(needed_parties(A & (A | B)), ("a",))
        self.assertEqual(needed_parties(C | (B & A)), ("a", "b", "c"))
        self.assertEqual(needed_parties(View.eyes("b") & View.eyes("a10") & View.eyes("a9")), ("a10", "a9", "b"))

    def test_not_plain(self):
        for bad in NOT_PLAIN:
            for call in (shortest, is_shortest, needed_parties):
                self.assert_error(NotPlain, {}, call, bad)

    def test_largest(self):
        chance = random.Random(25)
        start = time.perf_counter()
        for _ in range(100):
            shortest(random_plain(chance, 8, "abcdefgh"))
            shortest(random_plain(chance, 12, "abc"))
        self.assertLess(time.perf_counter() - start, 10)


if __name__ == "__main__":
    unittest.main()
