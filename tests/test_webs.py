"""Point 100: webs."""

import unittest

from manysights.claims import Claim
from manysights.errors import BadNote, BadPurse, TakenName
from manysights.webs import Web
from tests.helpers import Fails

ALL = Claim.always()
KINDS = (True, False, None, "1", "", -1, -(10**30), 10**30, 1.0, (1,), [1], {}, b"1")


class WebsTest(Fails, unittest.TestCase):
    def test_fields(self):
        notes = [["a", "b", ALL, 1], ("b", "b", ~ALL, 99)]
        purses = [["a", 0], ("c", 999)]
        web = Web(notes, purses)
        expected = ((("a", "b", ALL, 1), ("b", "b", ~ALL, 99)), (("a", 0), ("c", 999)))
        notes[0][3], purses[0][1] = 7, 7
        notes.append(("a", "b", ALL, 1))
        self.assertEqual((web.notes, web.purses), expected)
        self.assert_tuples((web.notes, web.purses))
        self.assertIsInstance(web.notes[0][2], Claim)
        self.assertEqual((Web((), []).notes, Web([], ()).purses), ((), ()))

    def test_amounts(self):
        fine = ("a", "b", ALL, 99)
        for wrong in KINDS + (0, 100):
            self.assert_error(BadNote, {"index": 1}, Web, [fine, ("a", "b", ALL, wrong), ("a", "b", ALL, 0)], [])
            self.assert_error(BadNote, {"index": 0}, Web, [("a", "b", ALL, wrong)], [("a", -1), ("a", -1)])

    def test_numbers(self):
        for wrong in KINDS + (1000,):
            self.assert_error(BadPurse, {"index": 2}, Web, [], [("a", 0), ("a", 999), ("b", wrong), ("b", -1)])
            self.assert_error(BadPurse, {"index": 0}, Web, [("a", "b", ALL, 1)], [["a", wrong]])

    def test_taken(self):
        purses = [("a", 1), ("b", 1), ("c", 1), ("b", 2), ("a", 3)]
        self.assert_error(TakenName, {"name": "b"}, Web, [], purses)
        self.assert_error(TakenName, {"name": "a"}, Web, [], purses[:3] + purses[4:])


if __name__ == "__main__":
    unittest.main()
