"""Point 112: the written forms of webs."""

import random
import unittest

from manysights.claims import Claim
from manysights.errors import BadLine
from manysights.views import View
from manysights.webforms import format_web, parse_web
from manysights.webs import Web
from tests.forms import first_bad_line, form_of, plain_read, spoilt_lines, spoilt_texts
from tests.helpers import Fails, random_claim
from tests.test_termforms import WORDS

ALL, ONE = Claim.always(), Claim.fact("f", 1)
TEXT = "note a b 3 (f=1 & ~known(eyes(a), f=1))\nnote b b 99 always\npurse a 5\npurse b 0"


def web_form(web):
    """Return the written form of a web, by the words of point 112."""
    lines = [f"note {issuer} {holder} {amount} {form_of(claim.parts)}" for issuer, holder, claim, amount in web.notes]
    return "\n".join(lines + [f"purse {party} {number}" for party, number in web.purses])


def plain_web(text):
    """Return the web whose written form the text is, or None."""
    notes, purses = [], []
    try:
        for line in text.split("\n") if text else []:
            words = line.split()
            if words[0] == "note":
                claim = plain_read("claim", " ".join(line.split(" ")[4:]))
                View.common([View.eyes(words[1]), View.eyes(words[2])])
                notes.append((words[1], words[2], claim, int(words[3])))
            else:
                purses.append((View.eyes(words[1]).parts[1], int(words[2])))
        web = Web(notes, purses)
        return web if all(note[2] is not None for note in notes) and web_form(web) == text else None
    except (ValueError, IndexError):
        return None


class WebFormsTest(Fails, unittest.TestCase):
    def check_line(self, text, line):
        """Check that the text is refused because of this line."""
        self.assert_error(BadLine, {"line": line}, parse_web, text)

    def test_examples(self):
        web = Web([("a", "b", ONE & ~Claim.knows("a", ONE), 3), ("b", "b", ALL, 99)], [("a", 5), ("b", 0)])
        self.assertEqual(format_web(web), TEXT)
        found = parse_web(TEXT)
        self.assertEqual((found.notes, found.purses), (web.notes, web.purses))
        self.assertIsInstance(found, Web)
        self.assertIsInstance(found.notes[0][2], Claim)
        for text in ("", "purse a 999", "note a a 1 always", "note note purse 1 note=3\npurse purse 0"):
            self.assertEqual(format_web(parse_web(text)), text)
        empty = parse_web("")
        self.assertEqual((empty.notes, empty.purses), ((), ()))
        self.assertEqual(format_web(Web([], [])), "")

    def test_bad_lines(self):
        for text, line in (
            ("\n", 0), (" ", 0), ("\nnote a b 1 always", 0), ("note a b 1 always\n", 1), ("note a b 1 always\n\npurse a 1", 1),
            ("purse a 1\n", 1), ("\npurse a 1", 0), ("\n\n", 0), ("note a b 0 always", 0), ("note a b 100 always", 0),
            ("note a b 01 always", 0), ("note a b -1 always", 0), ("note a b 1", 0), ("note a b always", 0), ("note a 1 always", 0),
            ("note a b 1 eyes(a)", 0), ("note a b 1  always", 0), ("note  a b 1 always", 0), ("note A b 1 always", 0),
            ("note a b 1 always ", 0), (" note a b 1 always", 0), ("note a b 1 f=10", 0), ("Note a b 1 always", 0), ("note", 0),
            ("purse a 1000", 0), ("purse a -1", 0), ("purse a 00", 0), ("purse a", 0), ("purse a 1 1", 0), ("purse  a 1", 0),
            ("purse 1 1", 0), ("purse a x", 0), ("purse a ", 0), ("purse", 0), ("purse a 1\nnote a b 1 always", 1),
            ("purse a 1\npurse b 1\npurse a 1", 2), ("note a b 1 always\npurse a 1\npurse a 2\nx", 2), ("do call always", 0),
            ("note a b 1 always\nx\nnote a b 1 always", 1), ("note a abcdefghi 1 always", 0), ("note a b 1 (always)", 0),
        ):
            self.check_line(text, line)

    def test_there_and_back(self):
        chance = random.Random(112)
        for _ in range(400):
            names = chance.sample(WORDS, 4)
            notes = [(chance.choice(names), chance.choice(names), random_claim(chance, 2, names[:2], names[2:]),
                      chance.randint(1, 99)) for _ in range(chance.randint(0, 5))]
            purses = [(name, chance.randint(0, 999)) for name in chance.sample(names, chance.randint(0, 4))]
            web = Web(notes, purses)
            text = format_web(web)
            self.assertEqual(text, web_form(web))
            found = parse_web(text)
            self.assertEqual((found.notes, found.purses), (web.notes, web.purses))
            self.assert_tuples((found.notes, found.purses))

    def test_spoilt_webs(self):
        chance = random.Random(113)
        fine = 0
        for _ in range(150):
            notes = [(chance.choice("ab"), chance.choice("ab"), random_claim(chance, 1), chance.randint(1, 99))
                     for _ in range(chance.randint(0, 3))]
            purses = [(name, chance.randint(0, 999)) for name in chance.sample("ab", chance.randint(0, 2))]
            text = format_web(Web(notes, purses))
            for spoilt in [*spoilt_texts(text, chance, 15), *spoilt_lines(text, chance, 8)]:
                line = None if spoilt == "" else first_bad_line(lambda told: told and plain_web(told) is not None, spoilt)
                if line is None:
                    self.assertEqual(format_web(parse_web(spoilt)), spoilt)
                    fine += 1
                else:
                    self.check_line(spoilt, line)
        self.assertGreater(fine, 100)


if __name__ == "__main__":
    unittest.main()
