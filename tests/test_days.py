"""Whole days at a table: deeds, ledgers, terms led back, tellings, promises and written forms together."""

import contextlib
import io
import os
import random
import re
import unittest

from manysights.answers import verdict
from manysights.before import claim_before, view_before
from manysights.claims import Claim
from manysights.deedforms import format_deed, parse_deed
from manysights.deeds import Deed
from manysights.doing import after, possible_at
from manysights.errors import DealError, NotPossible
from manysights.keeping import is_kept, keeping, with_keeping
from manysights.ledgers import Ledger, Supposing, Trial, perform
from manysights.meanings import holds, sight_of, where
from manysights.pieces import pieces
from manysights.saving import saved_in_secret, saving_tellings
from manysights.standings import Standing
from manysights.tableforms import format_standing, format_table, parse_standing, parse_table
from manysights.talks import talk
from manysights.teams import is_rule, team_rule
from manysights.tellings import given_away, told
from manysights.termforms import format_claim, format_view, parse_claim, parse_view
from manysights.views import View
from manysights.webforms import format_web, parse_web
from tests.helpers import Fails, random_claim, random_deed, random_standing, random_terms, random_view
from tests.test_keeping import random_web

MORNING = """deals 0 1 2 3 4 5
fact low 1 1 2 2 3 3
fact high 2 3 1 3 1 2
party ann 0 0 1 1 2 2 weights 1 1 1 1 1 1
party bob 0 1 2 1 2 0 weights 1 2 1 2 1 1
party cy 0 0 0 0 0 0 weights 1 1 1 1 1 1"""
DEEDS = """do call ~low=3
do show [cy whether(known(eyes(ann), high=3)); ann value(high)]
do row {change [low: low=1 -> high, always -> 1; high:]; announce (eyes(bob) | eyes(cy))}
do forget ann eyes(bob)"""
WEB = """note ann bob 5 high=3
note bob cy 4 high=3
note cy ann 2 ~high=3
purse ann 5
purse cy 1"""


class DaysTest(Fails, unittest.TestCase):
    def test_a_day(self):
        table, deeds = parse_table(MORNING + "\n" + DEEDS)
        self.assertEqual(format_standing(table), MORNING)
        ledger = Ledger(table)
        for deed in deeds:
            ledger.enter(deed)
        self.assertEqual(format_table(table, ledger.deeds), MORNING + "\n" + DEEDS)
        self.assertEqual(ledger.present, after(table, Deed.row(deeds)))
        self.assertEqual(ledger.present.deals, (0, 1, 2, 3))
        self.assertEqual(ledger.present.digits("low"), (2, 3, 1, 1))
        # What was known in the evening can be said in the morning.
        evening = parse_claim("known(eyes(cy), ~high=3)")
        morning = claim_before(evening, Deed.row(deeds), parties=("ann", "bob", "cy"))
        self.assertEqual([deal for deal in ledger.present if holds(table, morning, deal)],
                         list(where(ledger.present, evening)))
        # In the morning cy cannot know whether it will have enough, and bob does not see that ann pays.
        web = parse_web(WEB)
        self.assertEqual(format_web(web), WEB)
        found = keeping(table, web)
        self.assertEqual(found.kept, (("ann", (0, 1, 2, 3, 4, 5)), ("bob", (0, 1, 2, 3, 4, 5)), ("cy", ())))
        self.assertEqual(found.falls, ((1, "cy", 0, 0),))
        saved = with_keeping(table, web)
        self.assertEqual(where(saved, parse_claim("known(eyes(bob), ann=1)")), (0, 1, 2, 3, 4, 5))
        self.assertEqual(verdict(saved, parse_claim("known(eyes(ann), cy=0)")), "sure")
        # With one more in its purse cy pays wherever it owes.
        rich = parse_web(WEB.replace("purse cy 1", "purse cy 2"))
        self.assertIs(keeping(table, rich).sure, True)
        self.assertIs(is_kept(table, web, keeping(table, rich).kept), False)

    def test_a_day_with_blocks(self):
        table, deeds = parse_table(MORNING + "\n" + DEEDS)
        ledger = Ledger(table, most=3)
        with Trial(ledger):
            for deed in deeds[:3]:
                ledger.enter(deed)
            before = ledger.present
        self.assertEqual(ledger.present, table)
        with Supposing(ledger, parse_claim("~low=3")) as same:
            self.assertEqual(same.deeds[0], deeds[0])
            self.assertEqual(format_deed(same.deeds[0]), "call ~low=3")
            perform(same, [("enter", deed) for deed in deeds[1:3]])
            self.assertEqual(ledger.present, before)
        self.assertEqual((len(ledger), ledger.present), (0, table))
        steps = [("suppose", parse_claim("low=7"), []), ("enter", deeds[0])]
        self.assertEqual(perform(ledger, [("try", steps)]), (table,))
        self.assert_error(NotPossible, {"index": 0}, perform, ledger, steps)
        self.assertEqual(perform(ledger, steps[1:]), (after(table, deeds[0]),))

    def test_telling_in_secret(self):
        table = parse_standing("deals 0 1 2 3\nfact f 0 1 2 3\nparty a 0 1 2 3 weights 1 1 1 1\n"
                               "party b 0 0 0 0 weights 1 1 1 1")
        web = parse_web("note b a 5 f=3\nnote a b 5 f=3\nnote b a 1 ~f=3\nnote a b 1 f=1\npurse a 1\npurse b 0")
        reliances, secrets = [("b", parse_claim("(f=1 | f=3)"))], [(("b",), parse_claim("f=3"))]
        self.assertEqual(keeping(table, web).kept[1], ("b", ()))
        self.assertEqual([one.marks for one in saving_tellings(table, ["b"], web, reliances)], [(0, 1, 0, 1)])
        telling = saved_in_secret(table, ["b"], web, reliances, secrets)
        self.assertEqual(telling.marks, (0, 1, 0, 1))
        self.assertEqual(given_away(table, ["b"], secrets, telling), ())
        later = told(table, ["b"], telling)
        self.assertEqual(keeping(later, web).kept, (("a", (0, 1, 2, 3)), ("b", (1, 3))))
        # A team that could not act before can do so now, and its rule is the same after the table was written down.
        demands = [(parse_claim("(f=1 | f=3)"), ("b", 1), ("b", 1)), (parse_claim("f=0"), ("b", 0), ("a", 1))]
        again = parse_standing(format_standing(later))
        self.assertEqual(team_rule(later, demands).rule, team_rule(again, demands).rule)
        self.assertIs(is_rule(again, demands, team_rule(later, demands).rule), True)

    def test_random_days(self):
        chance = random.Random(1)
        days = 0
        for _ in range(200):
            standing = random_standing(chance, most=6)
            deeds = [random_deed(chance, 1) for _ in range(chance.randint(1, 4))]
            text = format_table(standing, deeds)
            table, told_deeds = parse_table(text)
            self.assertEqual((table, told_deeds), (standing, tuple(deeds)))
            row = parse_deed("row {" + "; ".join(format_deed(deed) for deed in deeds) + "}")
            ledger = Ledger(table)
            try:
                for deed in told_deeds:
                    ledger.enter(deed)
            except DealError as error:
                self.assertIsInstance(error, NotPossible)
                self.assertEqual(possible_at(standing, row), ())
                continue
            days += 1
            self.assertEqual(ledger.present, after(standing, row))
            self.check_led_back(chance, standing, ledger.present, row)
            self.check_evening(chance, ledger.present)
        self.assertGreater(days, 100)

    def check_led_back(self, chance, start, end, deed):
        """Check views and claims that are led back over a deed, also after they were written and read."""
        view, claim = random_view(chance, 1), random_claim(chance, 1)
        early = claim_before(claim, deed, parties="abc")
        if len(format_deed(deed)) < 200:
            early = parse_claim(format_claim(early))
        sight = sight_of(start, view_before(parse_view(format_view(view)), deed, parties="cba"))
        for deal in end:
            self.assertIs(holds(start, early, deal), holds(end, claim, deal))
            for other in end:
                places = start.position(deal), start.position(other)
                late = sight_of(end, view).alike(end.position(deal), end.position(other))
                self.assertIs(sight.alike(*places), late)

    def check_evening(self, chance, standing):
        """Check promises and a talk piece by piece, after everything was written and read."""
        web = random_web(chance)
        told_web, told_table = parse_web(format_web(web)), parse_standing(format_standing(standing))
        found = keeping(told_table, told_web)
        for name, deals in keeping(standing, web).kept:
            self.assertEqual(dict(found.kept)[name], deals)
            apart = [deal for piece in pieces(standing) for deal in dict(keeping(piece, web).kept)[name]]
            self.assertEqual(tuple(sorted(apart)), deals)
        terms = random_terms(chance, 1)
        end = talk(standing, ["a", "b"], terms).end
        deed = Deed.announce(View.worth("a", terms) & View.worth("b", terms))
        self.assertEqual(after(end, deed), end)
        self.assertEqual(parse_standing(format_standing(end)), end)

    def test_the_readme(self):
        here = os.path.dirname(os.path.dirname(os.path.abspath(__file__)))
        with open(os.path.join(here, "README.md"), encoding="utf-8") as stream:
            code = re.search(r"```python\n(.*?)```", stream.read(), re.DOTALL).group(1)
        with contextlib.redirect_stdout(io.StringIO()) as told_text:
            exec(compile(code, "README.md", "exec"), {})
        lines = told_text.getvalue().split("\n")
        for line in re.findall(r"print\(.*\)    +# (.*)", code):
            if not line.startswith("all of it"):
                self.assertIn(line.split(": ")[0], lines)


if __name__ == "__main__":
    unittest.main()
