"""Points 109 and 110: the written forms of deeds."""

import random
import unittest

from manysights.claims import Claim
from manysights.deedforms import format_deed, parse_deed
from manysights.deeds import Deed
from manysights.errors import BadText
from manysights.views import View
from tests.forms import form_of, plain_read, spoilt_texts
from tests.helpers import Fails, random_deed
from tests.test_termforms import WORDS

A, F = View.eyes("a"), View.value("f")
ALL, ONE = Claim.always(), Claim.fact("f", 1)

DEEDS = {
    "show []": Deed.show([]), "show [a value(f)]": Deed.show([("a", F)]),
    "show [a value(f); b eyes(a); a eyes(a)]": Deed.show([("a", F), ("b", A), ("a", A)]),
    "announce (eyes(a) & value(f))": Deed.announce(A & F), "call ~f=1": Deed.call(~ONE), "change []": Deed.change([]),
    "change [f:]": Deed.change([("f", [])]), "change [f: f=1 -> 3]": Deed.change([("f", [(ONE, 3)])]),
    "change [f: f=1 -> 3, always -> g; g:; h: always -> f]": Deed.change(
        [("f", [(ONE, 3), (ALL, "g")]), ("g", []), ("h", [(ALL, "f")])]),
    "change [f: always -> g; g: always -> f]": Deed.exchange("f", "g"), "forget a eyes(a)": Deed.forget("a", A),
    "row {}": Deed.row([]), "row {call f=1}": Deed.row([Deed.call(ONE)]),
    "row {row {}; show []}": Deed.row([]) >> Deed.show([]),
    "row {row {call f=1; row {change [f:; g:]}}; announce eyes(a)}": Deed.row(
        [Deed.call(ONE), Deed.row([Deed.change([("f", []), ("g", [])])])]) >> Deed.announce(A),
}
NO_DEEDS = (
    "", "show", "show[]", "show [ ]", "show []\n", " show []", "show [] ", "show [a]", "show [a  value(f)]", "show [value(f)]",
    "show [a value(f);b eyes(a)]", "show [a value(f); ]", "show [a value(f)", "show [A value(f)]", "show [a f=1]", "announce",
    "announce f=1", "announce  eyes(a)", "announce eyes(a);", "call", "call eyes(a)", "call  f=1", "call f=10", "change",
    "change [f]", "change [f: ]", "change [f : f=1 -> 3]", "change [f:f=1 -> 3]", "change [f: f=1->3]", "change [f: f=1 -> ]",
    "change [f: f=1 -> 10]", "change [f: f=1 -> 03]", "change [f: f=1 -> -3]", "change [f: f=1 -> G]", "change [f: f=1 -> 3g]",
    "change [f: f=1 -> 3; f:]", "change [f:; g:; f:]", "change [f: f=1 -> 3,f=2 -> 3]", "change [f: f=1 -> 3, ]", "change [f:;]",
    "change [f: -> 3]", "change [f: f=1 -> abcdefghi]", "change [1f:]", "change [f: f=1 -> 3] ", "forget a", "forget eyes(a)",
    "forget  a eyes(a)", "forget a  eyes(a)", "forget a f=1", "forget 1 eyes(a)", "row", "row{}", "row { }", "row {call f=1;}",
    "row {call f=1;call f=1}", "row {f=1}", "row {call f=1; }", "row {call f=1", "row {eyes(a)}", "{}", "row []", "show {}",
    "row {}; row {}", "always", "eyes(a)", "exchange f g", "(row {} & row {})", "(call f=1 & call f=1)", "(call f=1)", "~call f=1", "row {}=1", "row=1", "x(row {} & row {})", "announce (eyes(a) | value(f))", "call known(value(f), always)",
)


class DeedFormsTest(Fails, unittest.TestCase):
    def check_bad(self, text):
        """Check that the text is refused with the text itself."""
        self.assert_error(BadText, {"text": text}, parse_deed, text)

    def test_examples(self):
        for text, deed in DEEDS.items():
            self.assertEqual(format_deed(deed), text)
            self.assertEqual(parse_deed(text), deed)
            self.assertEqual(parse_deed(text).parts, deed.parts)
        for text in NO_DEEDS:
            self.check_bad(text)

    def test_names_that_are_words(self):
        for word in WORDS:
            for text in (f"show [{word} eyes({word}); {word} value({word})]", f"forget {word} eyes({word})",
                         f"change [{word}: {word}=1 -> {word}, always -> 2]", f"call ~{word}=0"):
                self.assertEqual(format_deed(parse_deed(text)), text)

    def test_there_and_back(self):
        chance = random.Random(109)
        texts = {}
        for _ in range(600):
            deed = random_deed(chance, 2, chance.sample(WORDS, 3), chance.sample(WORDS, 2))
            if chance.random() < 0.3:
                deed = Deed.row([deed, random_deed(chance, 1), deed])
            text = format_deed(deed)
            self.assertEqual(text, form_of(deed.parts))
            self.assertEqual(parse_deed(text), deed)
            self.assertEqual(parse_deed(text).parts, deed.parts)
            self.assertEqual(texts.setdefault(text, deed.parts), deed.parts)

    def test_spoilt_texts(self):
        chance = random.Random(110)
        fine = 0
        for _ in range(400):
            for spoilt in spoilt_texts(format_deed(random_deed(chance, 1, "ab")), chance, 25):
                expected = plain_read("deed", spoilt)
                if expected is None:
                    self.check_bad(spoilt)
                else:
                    self.assertEqual(parse_deed(spoilt), expected)
                    fine += 1
        self.assertGreater(fine, 300)

    def test_every_place_of_a_text(self):
        text = "row {change [f: f=1 -> 3, always -> g; g:]; show [a value(f); b eyes(a)]; row {}; forget a eyes(b)}"
        for place in range(len(text)):
            for spoilt in (text[:place] + text[place + 1:], text[:place] + text[place] + text[place:],
                           text[:place] + " " + text[place:], text[:place] + "0" + text[place:]):
                expected = plain_read("deed", spoilt)
                if expected is None:
                    self.check_bad(spoilt)
                else:
                    self.assertEqual(parse_deed(spoilt), expected)

    def test_largest(self):
        deep = Deed.call(ONE)
        for _ in range(40):
            deep = Deed.row([deep, Deed.show([])])
        self.assertEqual(parse_deed(format_deed(deep)), deep)
        many = Deed.row([Deed.change([(name, [(ONE, digit) for digit in range(10)]) for name in "fghi"])] * 6)
        self.assertEqual(parse_deed(format_deed(many)), many)
        self.check_bad("row {" * 800)
        self.check_bad("row {" * 400 + "}" * 399)


if __name__ == "__main__":
    unittest.main()
