"""The package keeps to its subset of the language, and its interface is there as written."""

import ast
import inspect
import importlib
import os
import tempfile
import unittest

from tests.language import Package, faults_of
from tests.loops import faults_in

HERE = os.path.dirname(os.path.dirname(os.path.abspath(__file__)))
PACKAGE = os.path.join(HERE, "manysights")

ERRORS = {
    "NoDeals": "", "SizesDiffer": "one two", "BadCount": "count", "BadName": "name", "TakenName": "name",
    "BadLength": "count", "BadDigit": "index", "BadWeight": "index", "UnknownName": "name",
    "UnknownParty": "name", "UnknownFact": "name", "UnknownDeal": "deal", "NoViews": "",
    "NotGrounded": "index", "NotPlain": "", "NotFactClaim": "", "BadSource": "index",
    "NotPossible": "index", "TooManyDeeds": "number", "NothingToUndo": "", "Stopped": "number",
    "NotOnePiece": "", "TooManyStates": "limit", "BadMove": "place", "HasCall": "index",
    "NoSpeakers": "", "NoWeights": "", "BadAct": "index", "NoActs": "", "BadNote": "index",
    "BadPurse": "index", "BadText": "text", "BadLine": "line",
}

FUNCTIONS = {
    "chains": ["tells(one, two)", "unlike_pair(one, two)", "links(sights, start, goal)",
               "reached(sights, start)", "is_closed(sights, deals)"],
    "listings": ["restricted(sight, deals)", "crossed(one, two)", "all_sights(size)", "sight_count(size)",
                 "splits(sight)", "merges(sight)"],
    "meanings": ["sight_of(standing, view)", "where(standing, claim)", "holds(standing, claim, deal)"],
    "answers": ["verdict(standing, claim)", "reason(standing, view, claim, deal)", "view_names(view)",
                "claim_names(claim)"],
    "orders": ["is_derivation(one, two, value)", "always_tells(one, two)", "parts_views(one, two, standing, pair)",
               "always_alike(one, two)"],
    "smallest": ["smallest_parting(one, two, *, most=4)"],
    "shortest": ["shortest(view)", "is_shortest(view)", "needed_parties(view)"],
    "follows": ["follows(premises, conclusion)"],
    "customs": ["keeps_customs(standing, customs)", "is_derivation_under(customs, one, two, value)",
                "tells_under(customs, one, two)", "same_under(customs, one, two)"],
    "conclusions": ["follows_under(customs, premises, conclusion)"],
    "doing": ["after(standing, deed)", "possible_at(standing, deed)"],
    "effects": ["learners(standing, deed)", "losers(standing, deed)", "is_idle(standing, deed)",
                "same_effect(standing, one, two)", "needed_deeds(standing, deeds)"],
    "ledgers": ["perform(ledger, steps)"],
    "before": ["view_before(view, deed, *, parties)", "claim_before(claim, deed, *, parties)"],
    "ledeyes": ["led_eyes(deed, *, parties)", "always_same(one, two, *, parties)", "fewest_deeds(deeds, *, parties)",
                "tells_after(deed, one, two, *, parties)"],
    "lasting": ["breaking_standing(customs, deed, custom, *, parties)", "lasting(customs, deeds, *, parties)"],
    "plays": ["moves(state, menu)", "reachable(standing, menu, *, limit=500)",
              "play_states(standing, menu, deal, row)"],
    "always": ["always(standing, menu, claim, *, limit=500)", "is_always_table(standing, menu, claim, table)",
               "first_play(standing, menu, claim, deal, *, limit=500)"],
    "rounds": ["rounds(standing, deeds)", "holds_from(repeated, claim, deal)", "holds_again(repeated, claim, deal)",
               "first_round(repeated, claim, deal)"],
    "endings": ["quiet_ends(standing, menu, *, limit=500)", "settles(standing, menu, *, limit=500)"],
    "plans": ["plan(standing, ours, theirs, goal, *, keep=None, costs=None, limit=500)",
              "is_plan(standing, ours, theirs, goal, steps, *, keep=None, costs=None)",
              "is_no_plan(standing, ours, theirs, goal, bad, *, keep=None)"],
    "holding": ["hold(standing, ours, theirs, claim, *, limit=500)", "is_holding(standing, ours, theirs, claim, steps)",
                "is_no_holding(standing, ours, theirs, claim, bad)"],
    "recurring": ["again(standing, ours, theirs, goal, *, limit=500)", "is_again(standing, ours, theirs, goal, steps)",
                  "is_no_again(standing, ours, theirs, goal, levels)"],
    "pools": ["pooled_sight(standing, group)", "seeing_groups(standing, view)", "unseeing_groups(standing, view)"],
    "tellings": ["told(standing, hearers, telling)", "given_away(standing, hearers, secrets, telling)",
                 "finest_tellings(standing, hearers, secrets)", "is_finest(standing, hearers, secrets, telling)",
                 "finest_within(standing, hearers, secrets, wanted)"],
    "wishes": ["coarsest_tellings(standing, hearers, wishes)",
               "telling_between(standing, hearers, secrets, wishes)"],
    "leaving": ["leave_out(standing, deeds, secrets)"],
    "ratios": ["ratio(top, bottom)", "added(one, two)", "multiplied(one, two)", "divided(one, two)",
               "compared(one, two)"],
    "chances": ["chance(standing, party, claim, deal)", "worth(standing, party, terms, deal)",
                "chances(standing, party, claim)"],
    "talks": ["talk(standing, speakers, terms)", "spoken(standing, speakers, terms)",
              "leaning_talk(standing, speakers, terms)"],
    "bargains": ["bargain(standing, offers)"],
    "priors": ["one_prior(standing, *, parties=None)", "agreeing_groups(standing)"],
    "bets": ["is_prior(standing, prior)", "is_twisted_ring(standing, start, steps)", "is_tempting(standing, bet)"],
    "odds": ["within_bounds(size, bounds)", "greatest_odds(size, bounds, deal, other)"],
    "acts": ["best_acts(standing, party, acts, view, deal)", "better_acts(standing, party, one, two)"],
    "teams": ["team_rule(standing, demands)", "is_rule(standing, demands, rule)",
              "is_forcing(standing, demands, ring)"],
    "flows": ["team_total(standing, judge, hopes, ties, rule)", "best_team(standing, judge, hopes, ties)",
              "flow_bound(standing, judge, hopes, ties, flow)"],
    "keeping": ["keeping(standing, web)", "is_kept(standing, web, kept)", "with_keeping(standing, web)",
                "deposits(standing, web)"],
    "saving": ["team_tellings(standing, hearers, demands)", "saving_tellings(standing, hearers, web, reliances)",
               "saved_in_secret(standing, hearers, web, reliances, secrets)"],
    "termforms": ["format_view(view)", "format_claim(claim)", "parse_view(text)", "parse_claim(text)"],
    "deedforms": ["format_deed(deed)", "parse_deed(text)"],
    "tableforms": ["format_standing(standing)", "parse_standing(text)", "format_table(standing, deeds)",
                   "parse_table(text)"],
    "webforms": ["format_web(web)", "parse_web(text)"],
    "asking": ["least_asking(standing, party, questions, target, deal, *, worst=False)",
               "is_floor(standing, party, questions, target, deal, table, *, worst=False)"],
    "pieces": ["common_sight(standing)", "pieces(standing)", "piece_of(standing, deal)", "beside(one, two)"],
}

CLASSES = {
    "sights.Sight": ["__init__(self, marks)", "cells", "cell_of(self, deal)", "alike(self, one, two)",
                     "nothing(size)", "everything(size)", "__and__(self, other)", "__or__(self, other)",
                     "__eq__(self, other)"],
    "standings.Standing": ["__init__(self, count)", "key", "with_fact(self, name, digits)",
                           "with_party(self, name, marks, *, weights=None)", "without_fact(self, name)",
                           "without_party(self, name)", "only(self, deals)", "digit(self, fact, deal)",
                           "digits(self, fact)", "sight(self, party)", "weights(self, party)",
                           "position(self, deal)", "__contains__", "__len__(self)", "__iter__(self)",
                           "__eq__(self, other)"],
    "views.View": ["grounded", "eyes(party)", "value(fact)", "whether(claim)", "when(claim, view)",
                   "worth(party, terms, *, seen=None)", "pooled(views)", "common(views)",
                   "answer(party, claim)", "__and__(self, other)", "__or__(self, other)",
                   "__eq__(self, other)"],
    "claims.Claim": ["always()", "fact(name, digit)", "known(view, claim)", "weighs(party, view, terms)",
                     "all_of(claims)", "any_of(claims)", "knows(party, claim)",
                     "likely(party, claim, top, bottom)", "gains(party, terms)", "__invert__(self)",
                     "__and__(self, other)", "__or__(self, other)", "__eq__(self, other)"],
    "answers.Asker": ["__init__(self, standing, party)", "__call__(self, claim, deal)"],
    "answers.Reason": [],
    "orders.Telling": [],
    "follows.Following": [],
    "ledgers.Ledger": ["__init__(self, standing, *, most=20)", "present", "deeds", "most", "enter(self, deed)",
                       "undo(self)", "__len__(self)"],
    "ledgers.Trial": ["__init__(self, ledger)", "__enter__(self)", "__exit__"],
    "ledgers.Supposing": ["__init__(self, ledger, claim)", "__enter__(self)", "__exit__"],
    "ledeyes.Sameness": [],
    "lasting.Lasting": [],
    "always.Always": [],
    "rounds.Rounds": ["standing_after(self, count)"],
    "endings.Settling": [],
    "plans.Plan": [],
    "holding.Holding": [],
    "recurring.Again": [],
    "wishes.Between": [],
    "talks.Talk": [],
    "bargains.Bargain": [],
    "priors.Prior": [],
    "asking.Asking": [],
    "teams.Team": [],
    "flows.Best": [],
    "webs.Web": ["__init__(self, notes, purses)"],
    "keeping.Keeping": [],
    "deeds.Deed": ["show(lessons)", "announce(view)", "call(claim)", "change(settings)", "forget(party, view)",
                   "row(deeds)", "exchange(fact, other)", "__rshift__(self, other)", "__eq__(self, other)"],
}


class LanguageTest(unittest.TestCase):
    def test_package_keeps_the_rules(self):
        self.assertEqual(faults_of(PACKAGE), [])

    def test_faults_are_found(self):
        bad = {
            "one.py": "from pack.two import b\n\n\ndef a(x):\n    \"\"\"A.\"\"\"\n    return b(x) / 2\n",
            "two.py": "from pack.one import a\n\n\ndef b(id):\n    \"\"\"B.\"\"\"\n    return any(a(k) for k in id)\n",
        }
        with tempfile.TemporaryDirectory() as folder:
            pack = os.path.join(folder, "pack")
            os.mkdir(pack)
            for name, text in bad.items():
                with open(os.path.join(pack, name), "w", encoding="utf-8") as stream:
                    stream.write(text)
            text = " ".join(Package(pack).look())
        for word in ("L16", "L7: the operator", "L7: a generator", "L15: id"):
            self.assertIn(word, text)


    def test_loops_that_change_what_they_walk(self):
        texts = {
            "row = [1]\n    for _ in range(3):\n        fresh = [1]\n        for k in row:\n"
            "            fresh.append(k)\n        row = fresh": 1,
            "row = [1]\n    for k in row:\n        row.append(k)": 1,
            "row = [1]\n    for k in row:\n        row = [k]": 1,
            "row = [1]\n    for k in enumerate(row):\n        other = row\n        other[0] = k": 1,
            "row = {}\n    for k, v in row.items():\n        del row[k]": 1,
            "row = [1]\n    for k in list(row):\n        row.append(k)": 0,
            "row = [1]\n    for k in row:\n        fresh = list(row)\n        fresh.append(k)": 0,
        }
        for text, count in texts.items():
            tree = ast.parse(f"def f():\n    {text}\n")
            self.assertEqual(len(faults_in(tree.body[0], {})), count, text)


class InterfaceTest(unittest.TestCase):
    def defined(self, module):
        with open(os.path.join(PACKAGE, module + ".py"), encoding="utf-8") as stream:
            tree = ast.parse(stream.read())
        return {node.name: node for node in tree.body if isinstance(node, (ast.FunctionDef, ast.ClassDef))}

    def test_functions(self):
        for module, forms in FUNCTIONS.items():
            there = importlib.import_module("manysights." + module)
            for form in forms:
                name = form.partition("(")[0]
                self.assertIn(name, self.defined(module))
                self.assertEqual(name + str(inspect.signature(getattr(there, name))), form)

    def test_classes(self):
        for place, forms in CLASSES.items():
            module, _, name = place.partition(".")
            node = self.defined(module)[name]
            own = {item.name for item in node.body if isinstance(item, ast.FunctionDef)}
            there = getattr(importlib.import_module("manysights." + module), name)
            for form in forms:
                method = form.partition("(")[0]
                self.assertIn(method, own)
                if "(" in form:
                    self.assertEqual(method + str(inspect.signature(getattr(there, method))), form)

    def test_errors(self):
        there = importlib.import_module("manysights.errors")
        self.assertEqual(set(self.defined("errors")), set(ERRORS) | {"DealError"})
        self.assertTrue(issubclass(there.DealError, ValueError))
        self.assertEqual(there.DealError.__bases__, (ValueError,))
        for name, fields in ERRORS.items():
            kind = getattr(there, name)
            base = there.UnknownName if name in ("UnknownParty", "UnknownFact") else there.DealError
            self.assertEqual(kind.__bases__, (base,))
            values = [f"value {index}" for index in range(len(fields.split()))]
            error = kind(*values)
            for field, value in zip(fields.split(), values):
                self.assertEqual(getattr(error, field), value)
            self.assertEqual(set(vars(error)), set(fields.split()))
            self.assertIsInstance(error, ValueError)


if __name__ == "__main__":
    unittest.main()
