"""Points 40 to 42: ledgers, blocks and steps."""

import random
import unittest

from manysights.claims import Claim
from manysights.deeds import Deed
from manysights.doing import after
from manysights.errors import (
    DealError, NothingToUndo, NotPossible, Stopped, TooManyDeeds, UnknownDeal, UnknownFact, UnknownParty,
)
from manysights.ledgers import Ledger, Supposing, Trial, perform
from manysights.standings import Standing
from manysights.views import View
from tests.helpers import Fails, error_of

F, ZERO, NEVER = View.value("f"), Claim.fact("f", 0), ~Claim.always()
SHOW, CALL, FLIP = Deed.announce(F), Deed.call(ZERO), Deed.change([("f", [(ZERO, 1), (Claim.always(), 0)])])


def table():
    """Return a small standing."""
    return Standing(4).with_fact("f", [0, 0, 1, 1]).with_party("a", [0, 1, 0, 1]).with_party("b", [0] * 4)


class Model:
    """A plain ledger: a list of states to go back to, and counters."""

    def __init__(self, standing, most=20):
        self.past, self.deeds, self.most, self.floor = [standing], [], most, 0

    def copy(self):
        return list(self.past), list(self.deeds), self.most, self.floor

    def bring_back(self, saved):
        self.past, self.deeds, self.most, self.floor = saved


def model_steps(model, steps, found):
    """Do steps on a plain ledger; return None, or the class and the fields of the error."""
    for step in steps:
        wrong = model_step(model, step, found)
        if wrong is not None:
            return wrong
    return None


def model_step(model, step, found):
    """Do one step on a plain ledger."""
    word = step[0]
    if word == "stop":
        return (Stopped, {"number": step[1]})
    if word == "try":
        model_steps(model, step[1], found)
    elif word in ("trial", "suppose"):
        saved = model.copy()
        if word == "suppose":
            error = error_of(after, model.past[-1], Deed.call(step[1]))
            if error is not None:
                return (error.__class__, vars(error))
            model.past.append(after(model.past[-1], Deed.call(step[1])))
            model.deeds.append(Deed.call(step[1]))
        model.floor = len(model.deeds)
        wrong = model_steps(model, step[-1], found)
        model.bring_back(saved)
        found.append(model.past[-1])
        return wrong
    elif word == "most":
        if step[1] < len(model.deeds):
            return (TooManyDeeds, {"number": step[1]})
        model.most = step[1]
    elif word == "undo":
        if len(model.deeds) == model.floor:
            return (NothingToUndo, {})
        model.past.pop()
        model.deeds.pop()
    else:
        if len(model.deeds) >= model.most:
            return (TooManyDeeds, {"number": model.most})
        error = error_of(after, model.past[-1], step[1])
        if error is not None:
            return (error.__class__, vars(error))
        model.past.append(after(model.past[-1], step[1]))
        model.deeds.append(step[1])
    found.append(model.past[-1])
    return None


def random_steps(chance, depth):
    """Return random steps."""
    deeds = [SHOW, CALL, FLIP, FLIP, Deed.row([]), Deed.call(NEVER), Deed.announce(View.value("q"))]
    steps = []
    for _ in range(chance.randint(0, 5)):
        word = chance.choice("eeeeeuuumtsysx" if depth else "eeuum")
        if word == "e":
            steps.append(["enter", chance.choice(deeds)])
        elif word == "u":
            steps.append(("undo",))
        elif word == "m":
            steps.append(("most", chance.randint(0, 6)))
        elif word == "t":
            steps.append(["trial", random_steps(chance, depth - 1)])
        elif word == "s":
            claim = chance.choice([ZERO, Claim.fact("f", 1), NEVER, Claim.fact("q", 1)])
            steps.append(("suppose", claim, random_steps(chance, depth - 1)))
        elif word == "y":
            steps.append(("try", random_steps(chance, depth - 1)))
        elif chance.random() < 0.3:
            steps.append(("stop", chance.randint(-5, 5)))
    return steps


class LedgerTest(Fails, unittest.TestCase):
    def test_entering_and_undoing(self):
        ledger = Ledger(table())
        self.assertEqual((ledger.present, ledger.deeds, len(ledger), ledger.most), (table(), (), 0, 20))
        self.assertIsNone(ledger.enter(SHOW))
        self.assertIsNone(ledger.enter(CALL >> FLIP))
        self.assertEqual(ledger.deeds, (SHOW, CALL >> FLIP))
        self.assertEqual(len(ledger), 2)
        self.assertEqual(ledger.present, after(table(), SHOW >> CALL >> FLIP))
        self.assertIsNone(ledger.undo())
        self.assertEqual((ledger.present, ledger.deeds), (after(table(), SHOW), (SHOW,)))
        ledger.undo()
        self.assertEqual((ledger.present, ledger.deeds), (table(), ()))
        self.assert_error(NothingToUndo, {}, ledger.undo)

    def test_most(self):
        ledger = Ledger(table())
        for _ in range(20):
            ledger.enter(FLIP)
        self.assert_error(TooManyDeeds, {"number": 20}, ledger.enter, FLIP)
        self.assertEqual(len(ledger), 20)
        self.assert_error(TooManyDeeds, {"number": 19}, setattr, ledger, "most", 19)
        self.assertEqual(ledger.most, 20)
        ledger.most = 60
        for _ in range(40):
            ledger.enter(FLIP)
        self.assert_error(TooManyDeeds, {"number": 60}, ledger.enter, FLIP)
        ledger.undo()
        ledger.most = 59
        self.assertEqual(ledger.most, 59)
        none = Ledger(table(), most=0)
        self.assert_error(TooManyDeeds, {"number": 0}, none.enter, FLIP)
        # The number of deeds comes before the errors of `after`.
        self.assert_error(TooManyDeeds, {"number": 0}, none.enter, Deed.announce(View.eyes("q")))
        self.assertEqual(none.deeds, ())

    def test_errors_change_nothing(self):
        ledger = Ledger(table())
        ledger.enter(SHOW)
        held = (ledger.present, ledger.deeds, ledger.most)
        self.assert_error(UnknownParty, {"name": "q"}, ledger.enter, Deed.announce(View.eyes("q")))
        self.assert_error(NotPossible, {"index": 1}, ledger.enter, FLIP >> Deed.call(NEVER))
        self.assertEqual((ledger.present, ledger.deeds, ledger.most), held)

    def test_trial(self):
        ledger = Ledger(table(), most=3)
        ledger.enter(SHOW)
        with Trial(ledger) as name:
            self.assertIs(name, ledger)
            self.assert_error(NothingToUndo, {}, ledger.undo)
            ledger.enter(FLIP)
            ledger.most = 2
            with Trial(ledger) as inner:
                self.assert_error(NothingToUndo, {}, inner.undo)
                self.assert_error(TooManyDeeds, {"number": 2}, inner.enter, FLIP)
                inner.most = 9
                inner.enter(FLIP)
                inner.undo()
                self.assert_error(NothingToUndo, {}, inner.undo)
            self.assertEqual((ledger.deeds, ledger.most), ((SHOW, FLIP), 2))
            ledger.undo()
            self.assert_error(NothingToUndo, {}, ledger.undo)
        self.assertEqual((ledger.deeds, ledger.most, ledger.present), ((SHOW,), 3, after(table(), SHOW)))
        ledger.undo()
        with self.assertRaises(UnknownDeal):
            with Trial(ledger):
                ledger.enter(FLIP)
                ledger.present.position(99)
        self.assertEqual((ledger.deeds, ledger.present), ((), table()))
        with self.assertRaises(KeyError):
            with Trial(ledger):
                ledger.enter(FLIP)
                raise KeyError("other")
        self.assertEqual(ledger.deeds, ())

    def test_supposing(self):
        ledger = Ledger(table(), most=1)
        ledger.enter(SHOW)
        with Supposing(ledger, ZERO) as name:
            self.assertIs(name, ledger)
            self.assertEqual(ledger.deeds, (SHOW, CALL))
            self.assertEqual((len(ledger), ledger.present.deals), (2, (0, 1)))
            self.assert_error(NothingToUndo, {}, ledger.undo)
            self.assert_error(TooManyDeeds, {"number": 1}, ledger.enter, FLIP)
            self.assert_error(TooManyDeeds, {"number": 1}, setattr, ledger, "most", 1)
            ledger.most = 2
            with Supposing(ledger, ZERO):
                self.assertEqual(len(ledger), 3)
        self.assertEqual((ledger.deeds, ledger.most), ((SHOW,), 1))
        ledger.undo()
        for claim, kind in ((NEVER, NotPossible), (Claim.knows("q", ZERO), UnknownParty),
                            (Claim.fact("q", 0), UnknownFact)):
            with self.assertRaises(kind):
                with Supposing(ledger, claim):
                    self.fail("the block was entered")
            self.assertEqual((ledger.deeds, ledger.most, ledger.present), ((), 1, table()))
            ledger.enter(SHOW)
            ledger.undo()
            self.assert_error(NothingToUndo, {}, ledger.undo)

    def test_blocks_left_by_return(self):
        def inside(ledger):
            with Trial(ledger):
                ledger.enter(FLIP)
                return ledger.present

        ledger = Ledger(table())
        self.assertEqual(inside(ledger), after(table(), FLIP))
        self.assertEqual(ledger.present, table())


class PerformTest(Fails, unittest.TestCase):
    def test_moments(self):
        ledger = Ledger(table())
        flipped, called = after(table(), FLIP), after(table(), CALL)
        steps = [("enter", FLIP), ("undo",), ("most", 5), ["trial", [("enter", FLIP)]],
                 ("suppose", ZERO, [["enter", SHOW]]), ("try", [("enter", CALL)])]
        self.assertEqual(perform(ledger, steps), (flipped, table(), table(), flipped, table(),
                                                  after(called, SHOW), table(), called, called))
        self.assertEqual((ledger.deeds, ledger.most), ((CALL,), 5))
        self.assertEqual(perform(ledger, []), ())
        self.assertEqual(perform(ledger, ()), ())

    def test_errors_that_a_try_ends(self):
        ledger = Ledger(table())
        flipped = after(table(), FLIP)
        steps = [("try", [("enter", FLIP), ("trial", [("enter", FLIP), ("undo",), ("undo",), ("enter", SHOW)]),
                          ("enter", SHOW)])]
        self.assertEqual(perform(ledger, steps), (flipped, table(), flipped, flipped, flipped))
        self.assertEqual(ledger.deeds, (FLIP,))
        # A block that could not be entered was not left.
        steps = [("try", [("suppose", NEVER, [("undo",)])]), ("try", [("stop", 3), ("undo",)])]
        self.assertEqual(perform(ledger, steps), (flipped, flipped))
        self.assertEqual(ledger.deeds, (FLIP,))

    def test_errors_that_none_ends(self):
        ledger = Ledger(table(), most=2)
        steps = [("enter", FLIP), ("trial", [("enter", SHOW), ("most", 7), ("stop", -4)]), ("undo",)]
        self.assert_error(Stopped, {"number": -4}, perform, ledger, steps)
        self.assertEqual((ledger.deeds, ledger.most), ((FLIP,), 2))
        # Each step is looked at when its turn comes.
        steps = [("enter", FLIP), ("enter", Deed.announce(View.eyes("q")))]
        self.assert_error(TooManyDeeds, {"number": 2}, perform, ledger, steps)
        self.assertEqual(ledger.deeds, (FLIP, FLIP))
        self.assert_error(TooManyDeeds, {"number": 1}, perform, ledger, [("undo",), ("enter", SHOW), ("most", 1)])
        self.assertEqual(ledger.deeds, (FLIP, SHOW))
        self.assert_error(NothingToUndo, {}, perform, ledger, [("trial", [("undo",)])])
        self.assertTrue(issubclass(Stopped, DealError))

    def test_deep_blocks(self):
        ledger = Ledger(table())
        steps = [("stop", 1)]
        for number in range(19):
            steps = [("trial", [("enter", FLIP)] + steps), ("stop", 2)] if number % 2 else [("try", steps)]
        found = perform(ledger, [("try", steps)])
        self.assertEqual(found[-1], table())
        self.assertEqual(ledger.deeds, ())

    def test_against_a_plain_ledger(self):
        chance = random.Random(42)
        ended = [0, 0]
        for _ in range(1500):
            most = chance.randint(0, 6)
            ledger, model, found = Ledger(table(), most=most), Model(table(), most), []
            steps = random_steps(chance, 3)
            wrong = model_steps(model, steps, found)
            ended[wrong is None] += 1
            if wrong is None:
                self.assertEqual(perform(ledger, steps), tuple(found))
            else:
                self.assert_error(wrong[0], wrong[1], perform, ledger, steps)
            self.assertEqual(ledger.deeds, tuple(model.deeds))
            self.assertEqual((ledger.present, ledger.most), (model.past[-1], model.most))
        self.assertGreater(min(ended), 200)


if __name__ == "__main__":
    unittest.main()
