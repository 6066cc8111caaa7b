"""Points 111 and 113: the written forms of standings, also together with deeds."""

import random
import time
import unittest

from manysights.claims import Claim
from manysights.deedforms import format_deed
from manysights.deeds import Deed
from manysights.errors import BadLine
from manysights.pieces import beside
from manysights.standings import Standing
from manysights.tableforms import format_standing, format_table, parse_standing, parse_table
from manysights.views import View
from tests.forms import first_bad_line, plain_read, plain_standing, spoilt_lines, spoilt_texts, standing_form
from tests.helpers import Fails, random_deed, random_standing
from tests.test_termforms import WORDS

TEXT = "deals 0 2 5\nfact f 0 1 1\nparty a 0 0 1 weights 1 4 1"
CALL = Deed.call(Claim.fact("f", 1))


def table():
    """Return the standing of TEXT."""
    made = Standing(6).only([0, 2, 5]).with_fact("f", [0, 1, 1])
    return made.with_party("a", [7, 7, 3], weights=[1, 4, 1])


def is_table(text):
    """Tell whether the text is the written form of a standing and deeds, by the words of point 113."""
    lines = text.split("\n")
    count = len([line for line in lines if line.startswith("do ")])
    rest = lines[:len(lines) - count]
    if any(line.startswith("do ") for line in rest) or plain_standing("\n".join(rest)) is None:
        return False
    return all(plain_read("deed", line[3:]) is not None for line in lines[len(rest):])


class TableFormsTest(Fails, unittest.TestCase):
    def check_line(self, parse, text, line):
        """Check that the text is refused because of this line."""
        self.assert_error(BadLine, {"line": line}, parse, text)

    def test_standings(self):
        self.assertEqual(format_standing(table()), TEXT)
        self.assertEqual(parse_standing(TEXT), table())
        self.assert_well_formed(parse_standing(TEXT))
        self.assertEqual(parse_standing("deals 0"), Standing(1))
        self.assertEqual(parse_standing("deals 7 1000000").deals, (7, 1000000))
        self.assertEqual(parse_standing(TEXT).position(5), 2)
        self.assertEqual(format_standing(Standing(3)), "deals 0 1 2")
        both = "deals 3\nfact a 9\nparty a 0 weights 1"
        self.assertEqual(format_standing(parse_standing(both)), both)

    def test_bad_lines_of_standings(self):
        for text, line in (
            ("", 0), ("\n", 0), (" ", 0), ("deals", 0), ("deals ", 0), ("deals 0 ", 0), (" deals 0", 0), ("deals  0", 0),
            ("deals 1 0", 0), ("deals 0 0", 0), ("deals -1", 0), ("deals 00", 0), ("deals 01", 0), ("deals 0\n", 1),
            ("deals a", 0), ("fact f 0", 0), ("deals 0\n\nfact f 0", 1), ("deals 0\nfact f 0\n", 2), ("Deals 0", 0),
            ("deals 0\ndeals 0", 1), ("deals 0 1\nfact f 0", 1), ("deals 0 1\nfact f 0 1 1", 1), ("deals 0\nfact f 10", 1),
            ("deals 0\nfact f -1", 1), ("deals 0\nfact F 0", 1), ("deals 0\nfact f", 1), ("deals 0\nfact  0", 1),
            ("deals 0\nfact f 00", 1), ("deals 0\nfact f 0\nfact g 0\nfact f 1", 3), ("deals 0\nfact f  0", 1),
            ("deals 0\nparty a 0 weights 1\nfact f 0", 2), ("deals 0\nparty a 1 weights 1", 1), ("deals 0\nparty a 0", 1),
            ("deals 0 1\nparty a 0 2 weights 1 1", 1), ("deals 0 1\nparty a 1 0 weights 1 1", 1),
            ("deals 0\nparty a 0 weights 0", 1), ("deals 0\nparty a 0 weights 01", 1), ("deals 0\nparty a 0 weights", 1),
            ("deals 0\nparty a 0 weights -1", 1), ("deals 0\nparty a 0 weights 1 1", 1), ("deals 0\nparty a 0  weights 1", 1),
            ("deals 0\nparty a 0 weight 1", 1), ("deals 0\nparty a 0 weights 1\nparty a 0 weights 1", 2), ("deals 0\nx", 1),
            ("deals 0\nparty 1a 0 weights 1", 1), ("deals 0\nparty a 0 weights 1 ", 1), (TEXT + "\ndo call always", 3),
            ("deals 0 1\nparty a 0 weights 1", 1), ("deals 0\nparty weights 1", 1),
        ):
            self.check_line(parse_standing, text, line)
        # Standings may have any number of facts and parties, names that are words, and great numbers.
        many = "\n".join(["deals 4"] + [f"fact f{index} 3" for index in range(40)]
                         + [f"party {word} 0 weights {10**300}" for word in WORDS + ["deals", "fact", "party", "do"]])
        self.assertEqual(format_standing(parse_standing(many)), many)

    def test_there_and_back(self):
        chance = random.Random(111)
        for _ in range(400):
            standing = random_standing(chance, parties=chance.sample(WORDS, 3), facts=chance.sample(WORDS, 2))
            text = format_standing(standing)
            self.assertEqual(text, standing_form(standing))
            self.assertEqual(parse_standing(text), standing)
            self.assert_well_formed(parse_standing(text))
            deeds = [random_deed(chance, 2) for _ in range(chance.randint(0, 3))]
            told = format_table(standing, deeds)
            self.assertEqual(told, "\n".join([text] + ["do " + format_deed(deed) for deed in deeds]))
            self.assertEqual(parse_table(told), (standing, tuple(deeds)))

    def test_tables(self):
        self.assertEqual(format_table(table(), []), TEXT)
        self.assertEqual(parse_table(TEXT), (table(), ()))
        self.assertIsInstance(parse_table(TEXT), tuple)
        # Deeds may name what the standing lacks.
        deed = Deed.forget("q", View.value("x"))
        self.assertEqual(format_table(table(), (CALL, deed)), TEXT + "\ndo call f=1\ndo forget q value(x)")
        self.assertEqual(parse_table(TEXT + "\ndo call f=1\ndo forget q value(x)"), (table(), (CALL, deed)))
        for text, line in (
            ("", 0), ("do call f=1", 0), (TEXT + "\n", 3), (TEXT + "\ndo", 3), (TEXT + "\ndo ", 3), (TEXT + "\ncall f=1", 3),
            (TEXT + "\ndo call f=1\n", 4), (TEXT + "\ndo call f=1\n\ndo call f=1", 4), (TEXT + "\ndo  call f=1", 3),
            (TEXT + "\ndo call f=1 ", 3), (TEXT + "\n do call f=1", 3), (TEXT + "\ndo call f=10", 3), (TEXT + "\ndo f=1", 3),
            (TEXT + "\ndo call f=1\nfact g 0 0 0", 4), (TEXT + "\ndo call f=1\nparty b 0 0 0 weights 1 1 1", 4),
            (TEXT + "\ndo row {call f=1}\ndo row {call f=1", 4), ("deals 0\ndo call f=1\nfact f 0", 2),
            (TEXT + "\nDo call f=1", 3), (TEXT + "\nfact f 0 1 1", 3), (TEXT + "\ndo call f=1\ndeals 0", 4),
        ):
            self.check_line(parse_table, text, line)

    def test_spoilt_standings(self):
        chance = random.Random(112)
        fine = 0
        for _ in range(120):
            text = format_standing(random_standing(chance, most=4, parties="ab"))
            for spoilt in [*spoilt_texts(text, chance, 15), *spoilt_lines(text, chance, 10)]:
                line = first_bad_line(lambda told: plain_standing(told) is not None, spoilt)
                if line is None:
                    self.assertEqual(parse_standing(spoilt), plain_standing(spoilt))
                    fine += 1
                else:
                    self.check_line(parse_standing, spoilt, line)
        self.assertGreater(fine, 100)

    def test_spoilt_tables(self):
        chance = random.Random(113)
        fine = 0
        for _ in range(120):
            deeds = [random_deed(chance, 1) for _ in range(chance.randint(1, 3))]
            text = format_table(random_standing(chance, most=2, parties="ab"), deeds)
            for spoilt in [*spoilt_texts(text, chance, 12), *spoilt_lines(text, chance, 8)]:
                line = first_bad_line(is_table, spoilt)
                if line is None:
                    self.assertEqual(format_table(*parse_table(spoilt)), spoilt)
                    fine += 1
                else:
                    self.check_line(parse_table, spoilt, line)
        self.assertGreater(fine, 100)

    def test_largest(self):
        start = time.time()
        big = Standing(2000).with_fact("f", [deal % 10 for deal in range(2000)])
        for index, name in enumerate("abcdef"):
            big = big.with_party(name, [deal // (index + 1) for deal in range(2000)], weights=[999] * 2000)
        self.assertEqual(parse_standing(format_standing(big)), big)
        heavy = Standing(1).with_party("a", [0], weights=[999])
        for _ in range(11):
            heavy = beside(heavy, heavy)
        # The weight has more digits than Python itself turns into a text.
        text = format_standing(heavy)
        self.assertGreater(len(text), 6000)
        self.assertEqual(parse_standing(text), heavy)
        self.check_line(parse_standing, "deals" + " 0" * 1900, 0)
        self.check_line(parse_standing, "\n" * 3000, 0)
        self.check_line(parse_table, TEXT + "\ndo " + "row {" * 700, 3)
        self.assertLess(time.time() - start, 10)


if __name__ == "__main__":
    unittest.main()
