"""Points 107, 108 and 110: the written forms of views and claims."""

import random
import time
import unittest

from manysights.claims import Claim
from manysights.errors import BadText
from manysights.plains import Plains
from manysights.termforms import format_claim, format_view, parse_claim, parse_view
from manysights.views import View
from tests.forms import form_of, plain_read, spoilt_texts
from tests.helpers import Fails, random_claim, random_plain, random_view

A, B, F = View.eyes("a"), View.eyes("b"), View.value("f")
ALL, ONE = Claim.always(), Claim.fact("f", 1)
WORDS = ["eyes", "value", "whether", "when", "worth", "always", "known", "weighs", "show", "call", "row", "weights", "a"]

VIEWS = {
    "eyes(a)": A, "value(f)": F, "whether(f=1)": View.whether(ONE), "when(~f=1, value(f))": View.when(~ONE, F),
    "worth(a, eyes(a), [])": View.worth("a", []), "worth(a, eyes(b), [3 f=1; -2 always])": View.worth(
        "a", [(3, ONE), (-2, ALL)], seen=B),
    "(eyes(a) & value(f) & eyes(a))": View.pooled([A, F, A]), "(eyes(a) | eyes(b) | eyes(a))": View.common([A, B, A]),
    "((eyes(a) & value(f)) | eyes(b))": (A & F) | B, "(eyes(a) & (eyes(a) & eyes(b)))": A & (A & B),
}
CLAIMS = {
    "always": ALL, "f=1": ONE, "known(eyes(a), f=1)": Claim.knows("a", ONE), "~~f=1": ~~ONE,
    "weighs(a, eyes(b), [])": Claim.weighs("a", B, []), "~(f=1 & ~always & f=1)": ~Claim.all_of([ONE, ~ALL, ONE]),
    "weighs(b, (eyes(a) & value(f)), [0 f=1; 10 ~f=1])": Claim.weighs("b", A & F, [(0, ONE), (10, ~ONE)]),
    "(f=1 | (f=1 | always))": ONE | (ONE | ALL), "~always": Claim.any_of([]),
    "weighs(a, eyes(a), [3 f=1; -1 always])": Claim.likely("a", ONE, 1, 3),
    "~weighs(a, eyes(a), [-5 f=1])": Claim.gains("a", [(5, ONE)]),
    "always=3": Claim.fact("always", 3), "known=0": Claim.fact("known", 0), "weighs=9": Claim.fact("weighs", 9),
    "(known=0 & known(eyes(eyes), always=1))": Claim.fact("known", 0) & Claim.knows("eyes", Claim.fact("always", 1)),
}
NO_VIEWS = (
    "", " ", "eyes", "eyes()", "eyes(a", "eyes(a))", " eyes(a)", "eyes(a) ", "eyes( a)", "eyes(a )", "eyes (a)",
    "eyes(A)", "eyes(1a)", "eyes(abcdefghi)", "eyes(a)\n", "\neyes(a)", "(eyes(a))", "((eyes(a) & eyes(b)))", "()",
    "(eyes(a)&eyes(b))", "(eyes(a) &  eyes(b))", "(eyes(a) & eyes(b) | eyes(a))", "(eyes(a) & )", "( & eyes(a))",
    "(eyes(a) &  | eyes(b) & eyes(a))", "(eyes(a) | value(f))", "(value(f) | eyes(a))", "whether()", "whether(eyes(a))",
    "when(f=1)", "when(f=1,value(f))", "when(value(f), f=1)", "worth(a, value(f), [])", "worth(a, eyes(a))",
    "worth(a, eyes(a), [3 f=1;-2 always])", "worth(a, eyes(a), [03 f=1])", "worth(a, eyes(a), [-0 f=1])",
    "worth(a, eyes(a), [+3 f=1])", "worth(a, eyes(a), [3 f=1; ])", "worth(a, eyes(a), [3  f=1])", "f=1", "always",
    "worth(a, eyes(a), [f=1])", "worth(a, eyes(a), [3 f=1, 2 f=1])", "worth(a, eyes(a), [- 3 f=1])", "eyes(a)(",
    "worth(a, eyes(a), [--3 f=1])", "worth(a, eyes(a), [3])", "worth(a, eyes(a), [3 ])", "worth(, eyes(a), [])",
    "value(f) & eyes(a)", "eyes(a) | eyes(b)", "Eyes(a)", "view(a)", "whether(f=1", "eyes(a, b)", "eyes(a)b", "~eyes(a)", "~f=1", "~always",
    "x(eyes(a) & eyes(b))", "eyes(a)~", "(f=1 & f=1)", "(eyes(a) & f=1)",
)
NO_CLAIMS = (
    "", "Always", "always ", " always", "always\n", "f", "f=", "=1", "f=10", "f=01", "f=-1", "f=a", "f =1", "f= 1",
    "f==1", "F=1", "abcdefghi=1", "1f=1", "~", "~ f=1", "(f=1)", "()", "(f=1 & f=1", "(f=1 & f=1 | f=1)", "(f=1&f=1)",
    "(f=1  & f=1)", "known(f=1, eyes(a))", "known(value(f), f=1)", "known(eyes(a))", "known(eyes(a),f=1)", "eyes(a)",
    "weighs(a, value(f), [])", "weighs(a, eyes(a))", "weighs(a, eyes(a), [1 f=1]", "weighs(A, eyes(a), [])", "known",
    "weighs(a, eyes(a), [1 eyes(a)])", "weighs(a, eyes(a), [1 f=1;2 f=1])", "weighs(a, eyes(a), (1 f=1))", "f=1 & f=1",
    "weighs(1, eyes(a), [])", "alwaysalways=1", "always()", "f=1)", "f=1f=1", "f=1=1", "~always=", "known()", "f=1,", "x~f=1", "f~f=1",
    "x(f=1 & f=1)", "(f=1 & eyes(a))", "(eyes(a) & eyes(b))", "1~f=1",
)


class TermFormsTest(Fails, unittest.TestCase):
    def check_bad(self, parse, text):
        """Check that the text is refused with the text itself."""
        self.assert_error(BadText, {"text": text}, parse, text)

    def test_views(self):
        for text, view in VIEWS.items():
            self.assertEqual(format_view(view), text)
            self.assertEqual(parse_view(text), view)
            self.assertEqual(parse_view(text).parts, view.parts)
        for text in NO_VIEWS:
            self.check_bad(parse_view, text)

    def test_claims(self):
        for text, claim in CLAIMS.items():
            self.assertEqual(format_claim(claim), text)
            self.assertEqual(parse_claim(text), claim)
            self.assertEqual(parse_claim(text).parts, claim.parts)
        for text in NO_CLAIMS:
            self.check_bad(parse_claim, text)

    def test_names_that_are_words(self):
        for word in WORDS:
            for text in (f"eyes({word})", f"(value({word}) & eyes({word}))", f"whether({word}=3)"):
                self.assertEqual(format_view(parse_view(text)), text)
            text = f"known((worth({word}, eyes({word}), [2 {word}=2]) & eyes({word})), ({word}=1 | ~{word}=2))"
            self.assertEqual(format_claim(parse_claim(text)), text)

    def test_there_and_back(self):
        chance = random.Random(110)
        texts = {}
        for _ in range(600):
            names = (chance.sample(WORDS, 3), chance.sample(WORDS, 2))
            view, claim = random_view(chance, 3, *names), random_claim(chance, 3, *names)
            for term, show, parse in ((view, format_view, parse_view), (claim, format_claim, parse_claim)):
                text = show(term)
                self.assertEqual(text, form_of(term.parts))
                self.assertEqual(parse(text), term)
                self.assertEqual(parse(text).parts, term.parts)
                # Two different terms have different written forms.
                self.assertEqual(texts.setdefault((show, text), term.parts), term.parts)

    def test_order_of_plain_views(self):
        # Point 33 rests on the same written forms.
        chance = random.Random(33)
        for _ in range(200):
            view, plains = random_plain(chance, chance.randint(1, 8)), Plains()
            self.assertEqual(plains.text_of(plains.number_of(view.node)), format_view(view))

    def test_spoilt_texts(self):
        chance = random.Random(107)
        fine = 0
        for _ in range(250):
            view, claim = random_view(chance, 2, "ab"), random_claim(chance, 2, "ab")
            for kind, text, parse in (("view", format_view(view), parse_view), ("claim", format_claim(claim), parse_claim)):
                for spoilt in spoilt_texts(text, chance, 30):
                    expected = plain_read(kind, spoilt)
                    if expected is None:
                        self.check_bad(parse, spoilt)
                    else:
                        self.assertEqual(parse(spoilt), expected)
                        fine += 1
        self.assertGreater(fine, 500)

    def test_every_place_of_a_text(self):
        text = "weighs(a, (eyes(a) & when(f=1, value(f))), [13 ~f=1; -20 (always | known(eyes(b), f=0))])"
        for place in range(len(text)):
            for spoilt in (text[:place] + text[place + 1:], text[:place] + text[place] + text[place:],
                           text[:place] + " " + text[place:], text[:place] + "0" + text[place:]):
                expected = plain_read("claim", spoilt)
                if expected is None:
                    self.check_bad(parse_claim, spoilt)
                else:
                    self.assertEqual(parse_claim(spoilt), expected)

    def test_numbers(self):
        for size in (63, 64, 65, 127, 128, 129, 640, 3900):
            for number in (10**size, 10**size - 1, 7 * 10**size + 3, -(10**size), 10**size + 10**(size // 2)):
                text = f"weighs(a, eyes(a), [{number} f=1])"
                claim = Claim.weighs("a", A, [(number, ONE)])
                self.assertEqual(format_claim(claim), text)
                self.assertEqual(parse_claim(text), claim)
        # Greater than Python itself turns into digits.
        claim = Claim.likely("a", ONE, 7 * 10**6000, 1)
        text = format_claim(claim)
        self.assertEqual(text, "weighs(a, eyes(a), [1 f=1; -7" + "0" * 6000 + " always])")
        self.assertEqual(parse_claim(text), claim)
        self.check_bad(parse_claim, "weighs(a, eyes(a), [0" + "1" * 3900 + " f=1])")

    def test_largest(self):
        start = time.time()
        deep_claim, deep_view = ONE, A
        for _ in range(20):
            deep_claim = Claim.known(A & View.whether(deep_claim), ONE)
            deep_view = (deep_view & F) | B
        for _ in range(40):
            deep_claim = ~deep_claim
        self.assertEqual(parse_claim(format_claim(deep_claim)), deep_claim)
        self.assertEqual(parse_view(format_view(deep_view)), deep_view)
        many = Claim.weighs("a", View.pooled([A, F] * 90), [(index - 99, ONE | ALL) for index in range(150)])
        self.assertEqual(parse_claim(format_claim(many)), many)
        for sign in "(~[{":
            self.check_bad(parse_claim, sign * 4000)
            self.check_bad(parse_view, sign * 4000)
        self.check_bad(parse_claim, "(" * 2000 + "f=1" + ")" * 1990)
        self.check_bad(parse_claim, "f" * 4000)
        self.check_bad(parse_claim, "known(" * 600)
        self.assertLess(time.time() - start, 10)


if __name__ == "__main__":
    unittest.main()
