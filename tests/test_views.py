"""Points 19 to 22 and 25: the parts of views and claims."""

import itertools
import unittest

from manysights.claims import Claim
from manysights.errors import BadDigit, BadName, NotGrounded, NoViews
from manysights.views import View
from tests.helpers import NO_DIGITS, NO_NAMES, Fails

A, B = View.eyes("a"), View.eyes("b")
F = View.value("f")
C, D = Claim.fact("f", 1), Claim.fact("g", 0)


class ViewTest(Fails, unittest.TestCase):
    def test_parts(self):
        c, d = ("fact", "f", 1), ("fact", "g", 0)
        rows = [
            (A, ("eyes", "a")),
            (F, ("value", "f")),
            (View.whether(C), ("whether", c)),
            (View.when(C, F), ("when", c, ("value", "f"))),
            (View.worth("a", [[3, C], (-2, D)]), ("worth", "a", ("eyes", "a"), ((3, c), (-2, d)))),
            (View.worth("a", (), seen=A & F), ("worth", "a", ("pooled", (("eyes", "a"), ("value", "f"))), ())),
            (View.worth("b", [(0, C)], seen=None), ("worth", "b", ("eyes", "b"), ((0, c),))),
            (View.pooled([A, F, A]), ("pooled", (("eyes", "a"), ("value", "f"), ("eyes", "a")))),
            (View.common((A, B, A)), ("common", (("eyes", "a"), ("eyes", "b"), ("eyes", "a")))),
            (A & F, ("pooled", (("eyes", "a"), ("value", "f")))),
            (A | B, ("common", (("eyes", "a"), ("eyes", "b")))),
            (A & B & F, ("pooled", (("pooled", (("eyes", "a"), ("eyes", "b"))), ("value", "f")))),
        ]
        for view, parts in rows:
            self.assertEqual(view.parts, parts)
            self.assertIsInstance(view, View)
            self.assert_tuples(view.parts)

    def test_one_member(self):
        for view in (A, F, A & F, A | B):
            self.assertIs(View.pooled([view]), view)
        for view in (A, A & F, A | B):
            self.assertIs(View.common((view,)), view)

    def test_no_members(self):
        for empty in ((), []):
            self.assert_error(NoViews, {}, View.pooled, empty)
            self.assert_error(NoViews, {}, View.common, empty)

    def test_grounded(self):
        not_grounded = [F, View.whether(C), View.when(C, A), View.worth("a", []), F & View.whether(D),
                        View.pooled([F, F & F, View.when(C, A | B)])]
        grounded = [A, A | B, A & B, A & F, F & A, (F & F) & (F & (A | B)), View.common([A & F, B])]
        for view in not_grounded:
            self.assertIs(view.grounded, False)
        for view in grounded:
            self.assertIs(view.grounded, True)

    def test_not_grounded(self):
        for bad in (F, View.whether(C), View.when(C, A), View.worth("a", []), F & F):
            self.assert_error(NotGrounded, {"index": 0}, View.common, [bad])
            self.assert_error(NotGrounded, {"index": 0}, View.common, [bad, A])
            self.assert_error(NotGrounded, {"index": 1}, View.common, (A, bad, bad))
            self.assert_error(NotGrounded, {"index": 2}, View.common, (A, A & bad, bad))
            self.assert_error(NotGrounded, {"index": 1}, lambda: A | bad)
            self.assert_error(NotGrounded, {"index": 0}, lambda: bad | A)
            self.assert_error(NotGrounded, {"index": 0}, View.worth, "a", [], seen=bad)
            self.assert_error(NotGrounded, {"index": 0}, Claim.known, bad, C)
            self.assert_error(NotGrounded, {"index": 0}, Claim.weighs, "a", bad, [])

    def test_names(self):
        for name in NO_NAMES:
            fields = {"name": name}
            self.assert_error(BadName, fields, View.eyes, name)
            self.assert_error(BadName, fields, View.value, name)
            self.assert_error(BadName, fields, View.worth, name, [], seen=F)
            self.assert_error(BadName, fields, View.worth, name, [])
            self.assert_error(BadName, fields, View.answer, name, C)
            self.assert_error(BadName, fields, Claim.fact, name, None)
            self.assert_error(BadName, fields, Claim.weighs, name, F, [])
            self.assert_error(BadName, fields, Claim.knows, name, C)
            self.assert_error(BadName, fields, Claim.likely, name, C, 1, 2)
            self.assert_error(BadName, fields, Claim.gains, name, [])

    def test_answer(self):
        for claim in (C, ~C, C & D, Claim.knows("b", C)):
            view = View.answer("a", claim)
            expected = View.whether(Claim.knows("a", claim)) & View.whether(Claim.knows("a", ~claim))
            self.assertEqual(view, expected)
            self.assertEqual(view.parts, expected.parts)
            self.assertIs(view.grounded, False)
            self.assertIsInstance(view, View)

    def test_equal(self):
        views = [A, B, F, View.value("a"), View.whether(C), View.when(C, A), View.when(C, F), A & B, B & A, A | B,
                 View.pooled([A, B, F]), (A & B) & F, View.worth("a", []), View.worth("a", [], seen=B),
                 View.worth("a", [(1, C)]), View.worth("a", [(2, C)])]
        for one, two in itertools.product(range(len(views)), repeat=2):
            self.assertIs(views[one] == views[two], one == two)
            self.assertIs(views[one] != views[two], one != two)
        self.assertIs(View.eyes("a") == A, True)
        for value in (None, A.parts, "a", C, Claim.always(), 0, object(), [A]):
            self.assertIs(A == value, False)
            self.assertIs(A != value, True)
            self.assertIs(value == A, False)

    def test_arguments_are_copied(self):
        views, term, terms = [A, B], [1, C], []
        terms.append(term)
        pooled, common, worth = View.pooled(views), View.common(views), View.worth("a", terms)
        weighs = Claim.weighs("a", A, terms)
        parts = (pooled.parts, common.parts, worth.parts, weighs.parts)
        views.append(A)
        term[0] = 5
        terms.append((7, D))
        self.assertEqual((pooled.parts, common.parts, worth.parts, weighs.parts), parts)
        self.assertEqual(worth.parts[3], ((1, C.parts),))
        self.assertEqual(len(views), 3)

    def test_deep(self):
        view, claim = A, C
        for _ in range(60):
            view = view & F
            claim = ~claim
        self.assertIs(view.grounded, True)
        self.assertEqual(Claim.known(view, claim).parts, ("known", view.parts, claim.parts))
        self.assertIs((view & A) == (view & A), True)


class ClaimTest(Fails, unittest.TestCase):
    def test_parts(self):
        c, d, eyes = ("fact", "f", 1), ("fact", "g", 0), ("eyes", "a")
        rows = [
            (Claim.always(), ("always",)),
            (C, c),
            (Claim.fact("abcdefgh", 9), ("fact", "abcdefgh", 9)),
            (Claim.known(A, C), ("known", eyes, c)),
            (Claim.known(A & F, C), ("known", ("pooled", (eyes, ("value", "f"))), c)),
            (Claim.weighs("b", A, [[1, C], (-999, D)]), ("weighs", "b", eyes, ((1, c), (-999, d)))),
            (Claim.weighs("b", A, ()), ("weighs", "b", eyes, ())),
            (~C, ("not", c)),
            (~~C, ("not", ("not", c))),
            (Claim.all_of([C, D, C]), ("and", (c, d, c))),
            (Claim.any_of((C, D, C)), ("or", (c, d, c))),
            (C & D, ("and", (c, d))),
            (C | D, ("or", (c, d))),
            (C & D & C, ("and", (("and", (c, d)), c))),
            (Claim.all_of([]), ("always",)),
            (Claim.any_of(()), ("not", ("always",))),
        ]
        for claim, parts in rows:
            self.assertEqual(claim.parts, parts)
            self.assertIsInstance(claim, Claim)
            self.assert_tuples(claim.parts)

    def test_one_member(self):
        for claim in (C, ~C, C & D, Claim.always()):
            self.assertIs(Claim.all_of([claim]), claim)
            self.assertIs(Claim.any_of((claim,)), claim)

    def test_bad_digit(self):
        for digit in NO_DIGITS + (object(), A, C):
            self.assert_error(BadDigit, {"index": 0}, Claim.fact, "f", digit)
        self.assert_error(BadName, {"name": "F"}, Claim.fact, "F", 10)
        for digit in range(10):
            self.assertEqual(Claim.fact("f", digit).parts, ("fact", "f", digit))

    def test_short_forms(self):
        always = Claim.always()
        self.assertEqual(Claim.knows("a", C), Claim.known(A, C))
        for top, bottom in ((1, 2), (0, 1), (-3, 4), (6, 4), (10**20, 10**21)):
            expected = Claim.weighs("a", A, ((bottom, C), (-top, always)))
            self.assertEqual(Claim.likely("a", C, top, bottom), expected)
            self.assertEqual(Claim.likely("a", C, top, bottom).parts, expected.parts)
        for terms in ([], [(3, C)], [[3, C], [-2, D], (0, always)]):
            opposite = [(-number, claim) for number, claim in terms]
            expected = ~Claim.weighs("a", A, opposite)
            self.assertEqual(Claim.gains("a", terms), expected)
            self.assert_tuples(Claim.gains("a", terms).parts)

    def test_equal(self):
        claims = [Claim.always(), C, D, Claim.fact("f", 2), ~C, ~~C, C & D, D & C, C | D, Claim.known(A, C),
                  Claim.known(B, C), Claim.weighs("a", A, []), Claim.weighs("b", A, []), Claim.weighs("a", B, []),
                  Claim.weighs("a", A, [(1, C)])]
        for one, two in itertools.product(range(len(claims)), repeat=2):
            self.assertIs(claims[one] == claims[two], one == two)
            self.assertIs(claims[one] != claims[two], one != two)
        for value in (None, C.parts, "f", A, 0, object(), [C]):
            self.assertIs(C == value, False)
            self.assertIs(C != value, True)
            self.assertIs(value == C, False)

    def test_same_answer_again(self):
        claims = [C, D]
        self.assertEqual(Claim.all_of(claims), Claim.all_of(claims))
        self.assertEqual(claims, [C, D])


if __name__ == "__main__":
    unittest.main()
