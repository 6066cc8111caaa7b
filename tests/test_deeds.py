"""Points 35 and 36: the parts of deeds, and wrong deeds."""

import itertools
import unittest

from manysights.claims import Claim
from manysights.deeds import Deed
from manysights.errors import BadName, BadSource, TakenName
from manysights.views import View
from tests.helpers import NO_DIGITS, NO_NAMES, Fails

A, F = View.eyes("a"), View.value("f")
C, D = Claim.fact("f", 1), ~Claim.fact("g", 0)
ALWAYS = Claim.always()


class DeedTest(Fails, unittest.TestCase):
    def test_parts(self):
        a, f, c, d = A.parts, F.parts, C.parts, D.parts
        rows = [
            (Deed.show([("a", F), ["b", A & F], ("a", A)]),
             ("show", (("a", f), ("b", ("pooled", (a, f))), ("a", a)))),
            (Deed.show(()), ("show", ())),
            (Deed.announce(F), ("announce", f)),
            (Deed.call(C), ("call", c)),
            (Deed.change([("f", [(C, 3), [D, "g"]]), ["g", ()], ("a", ((C, "a"),))]),
             ("change", (("f", ((c, 3), (d, "g"))), ("g", ()), ("a", ((c, "a"),))))),
            (Deed.change([]), ("change", ())),
            (Deed.forget("a", F), ("forget", "a", f)),
            (Deed.row([Deed.call(C), Deed.row([])]), ("row", (("call", c), ("row", ())))),
            (Deed.row((Deed.announce(A),)), ("row", (("announce", a),))),
            (Deed.call(C) >> Deed.announce(F), ("row", (("call", c), ("announce", f)))),
            (Deed.call(C) >> Deed.call(D) >> Deed.call(C), ("row", (("row", (("call", c), ("call", d))), ("call", c)))),
            (Deed.exchange("f", "g"), ("change", (("f", ((("always",), "g"),)), ("g", ((("always",), "f"),))))),
        ]
        for deed, parts in rows:
            self.assertEqual(deed.parts, parts)
            self.assertIsInstance(deed, Deed)
            self.assert_tuples(deed.parts)
        settings = (("f", ((ALWAYS, "g"),)), ("g", ((ALWAYS, "f"),)))
        self.assertEqual(Deed.exchange("f", "g"), Deed.change(settings))

    def test_equal(self):
        deeds = [Deed.show([]), Deed.change([]), Deed.row([]), Deed.announce(A), Deed.announce(F), Deed.call(C),
                 Deed.call(D), Deed.forget("a", F), Deed.forget("b", F), Deed.show([("a", F)]),
                 Deed.change([("f", [])]), Deed.change([("f", [(C, 1)])]), Deed.change([("f", [(C, "g")])]),
                 Deed.row([Deed.call(C)]), Deed.call(C) >> Deed.call(D), Deed.call(D) >> Deed.call(C)]
        for one, two in itertools.product(range(len(deeds)), repeat=2):
            self.assertIs(deeds[one] == deeds[two], one == two)
            self.assertIs(deeds[one] != deeds[two], one != two)
        for value in (None, deeds[0].parts, "show", A, C, 0, object()):
            self.assertIs(deeds[0] == value, False)
            self.assertIs(deeds[0] != value, True)
            self.assertIs(value == deeds[0], False)

    def test_names(self):
        for name in NO_NAMES:
            fields = {"name": name}
            self.assert_error(BadName, fields, Deed.forget, name, F)
            self.assert_error(BadName, fields, Deed.show, [(name, F)])
            self.assert_error(BadName, fields, Deed.show, [("a", F), ("b", A), (name, A), ("B", A)])
            self.assert_error(BadName, fields, Deed.change, [(name, [(C, 10)])])
            self.assert_error(BadName, fields, Deed.change, [("f", [(C, name)])])
            self.assert_error(BadName, fields, Deed.exchange, name, "f")
            self.assert_error(BadName, fields, Deed.exchange, "f", name)
            self.assert_error(BadName, fields, Deed.exchange, name, "F")

    def test_taken(self):
        fields = {"name": "f"}
        self.assert_error(TakenName, fields, Deed.exchange, "f", "f")
        self.assert_error(TakenName, fields, Deed.change, [("f", []), ("g", []), ("f", [(C, None)])])
        self.assert_error(TakenName, {"name": "g"}, Deed.change, [("f", []), ("g", []), ["g", []], ("f", [])])

    def test_sources(self):
        for source in NO_DIGITS + (object(), A, C, Deed.row([])):
            if isinstance(source, str):
                self.assert_error(BadName, {"name": source}, Deed.change, [("f", [(C, source)])])
                continue
            self.assert_error(BadSource, {"index": 0}, Deed.change, [("f", [(C, source)])])
            settings = [("f", [(C, 0), (D, "g")]), ("g", []), ("h", [(C, 9), (C, source), (C, "H")]), ("H", [])]
            self.assert_error(BadSource, {"index": 2}, Deed.change, settings)
        for source in range(10):
            self.assertEqual(Deed.change([("f", [(C, source)])]).parts[1][0][1][0][1], source)

    def test_first_fault_first(self):
        self.assert_error(BadName, {"name": "H"}, Deed.change, [("f", [(C, "H"), (C, None)]), ("F", [])])
        self.assert_error(BadSource, {"index": 0}, Deed.change, [("f", [(C, None), (C, "H")]), ("F", [])])
        self.assert_error(BadName, {"name": "F"}, Deed.change, [("f", [(C, 1)]), ("F", [(C, None)])])
        self.assert_error(BadSource, {"index": 1}, Deed.change, [("f", [(C, 1)]), ("g", [(C, -1)]), ("f", [])])
        self.assert_error(TakenName, {"name": "f"}, Deed.change, [("f", [(C, 1)]), ("f", [(C, "F")]), ("F", [])])

    def test_arguments_are_copied(self):
        lesson, case, deeds = ["a", F], [C, 1], [Deed.call(C)]
        lessons, cases = [lesson], [case]
        setting = ["f", cases]
        settings = [setting]
        show, change, row = Deed.show(lessons), Deed.change(settings), Deed.row(deeds)
        parts = (show.parts, change.parts, row.parts)
        lesson[0], case[1], setting[0] = "b", 2, "g"
        lessons.append(("c", A))
        cases.append((D, 3))
        settings.append(("h", []))
        deeds.append(Deed.call(D))
        self.assertEqual((show.parts, change.parts, row.parts), parts)
        self.assertEqual(lessons[0], ["b", F])

    def test_deep(self):
        deed = Deed.call(C)
        for _ in range(59):
            deed = Deed.row([deed])
        self.assertEqual(deed.parts[0], "row")
        self.assertEqual((deed >> deed).parts, ("row", (deed.parts, deed.parts)))


if __name__ == "__main__":
    unittest.main()
