"""Points 44, 51, 53 and 54 over many programs that are put together at random: steps are those of run."""

import unittest

from deedstore.errors import NotEnded, Raised, Stale
from deedstore.histories import is_history, replayed
from deedstore.steppers import Stepper
from tests.build import begun, programs
from tests.makers import PlainMaker
from tests.plain import Plain
from tests.plain_store import Whole
from tests import test_random
from tests.test_random import outcome_of
from tests.test_random_whole import stale_store


def stops_of(trace):
    """What a trace tells of the statements that begin: each with the programs that run, as (id, word)."""
    running = []
    stops = []
    for many, entry in enumerate(trace):
        if entry[0] == "enter":
            running.append((many, entry[1]))
        elif entry[0] == "leave":
            running.pop()
        elif entry[0] == "at":
            stops.append((tuple(running), entry[1]))
    return stops


def told_by(stepper):
    """How the call of a stepper has ended, as outcome_of tells it."""
    try:
        outcome = stepper.outcome()
    except Raised as e:
        return ("raised", e.word, e.details, e.program, e.place, e.stack, e.causes, e.history, e.trace)
    except Stale as e:
        return ("stale", e.fault, e.word, e.place)
    return ("ended", "well", outcome.results, outcome.history, outcome.trace)


class StepTest(unittest.TestCase):
    """A stepper against run, and against the trace that run gives."""

    def stores(self, many):
        for seed in range(many):
            store = test_random.HistoryTest().store(seed)
            store.begin()
            outcome_of(store, "q")
            other = store.copy()
            yield seed, store, outcome_of(other, "p"), other

    def stepper(self, store):
        return Stepper(store, "p", most=300)

    def test_into(self):
        for seed, store, wanted, other in self.stores(120):
            before = store.copy()
            many = len(store.journal)
            stepper = self.stepper(store)
            found = [stepper.at]
            while found[-1] is not None:
                self.assertRaises(NotEnded, stepper.outcome)
                self.assertEqual(stepper.frames[-1][:2], stepper.at)
                if len(found) % 5 == 0:
                    # The deeds so far make the rows so far.
                    self.assertTrue(is_history(before, store.journal[many:], store), seed)
                found.append(stepper.into())
            self.assertEqual(told_by(stepper), wanted, seed)
            self.assertEqual(store.journal, other.journal)
            self.assertTrue(store == other and replayed(before, store.journal[many:]) == store)
            self.assertEqual((stepper.at, stepper.frames), (None, ()))
            if wanted[0] != "stale":
                stops = [(running[-1][1], place) for running, place in stops_of(wanted[-1])]
                self.assertEqual(found[:-1], stops, seed)

    def test_frames(self):
        for seed, store, wanted, _ in self.stores(60):
            if wanted[0] != "stale":
                stepper = self.stepper(store)
                for running, place in stops_of(wanted[-1]):
                    self.assertEqual([frame[0] for frame in stepper.frames], [word for _, word in running])
                    self.assertEqual(stepper.frames[-1][:2], (running[-1][1], place))
                    stepper.into()

    def test_over_and_out(self):
        for seed, store, wanted, other in self.stores(80):
            if wanted[0] == "stale":
                continue
            stops = stops_of(wanted[-1])
            stepper = self.stepper(store)
            at = 0
            turn = seed
            while at < len(stops):
                running, place = stops[at]
                self.assertEqual(stepper.at, (running[-1][1], place), seed)
                move = ("into", "over", "out", "over", "into", "into", "over")[turn % 7]
                turn += 1
                allowed = {"into": None, "over": running, "out": running[:-1]}[move]
                at += 1
                while at < len(stops) and allowed is not None and stops[at][0][-1] not in allowed:
                    at += 1
                found = getattr(stepper, move)()
                self.assertEqual(found, stepper.at)
            self.assertIsNone(stepper.at)
            self.assertEqual(told_by(stepper), wanted, seed)
            self.assertTrue(store == other)

    def test_until(self):
        for seed, store, wanted, _ in self.stores(60):
            if wanted[0] == "stale":
                continue
            stops = [(running[-1][1], place) for running, place in stops_of(wanted[-1])]
            for target in stops[seed % 3::4]:
                again = store.copy()
                stepper = self.stepper(again)
                found = []
                while stepper.until(*target) is not None:
                    found.append(stepper.at)
                self.assertEqual(found, [stop for stop in stops[1:] if stop == target])
                self.assertEqual(told_by(stepper), wanted)

    def test_give_up(self):
        for seed, store, wanted, _ in self.stores(60):
            for steps in range(0, 40, 3):
                again = store.copy()
                many = len(again.journal)
                stepper = self.stepper(again)
                for _ in range(steps):
                    stepper.into()
                had_ended = stepper.at is None
                stepper.give_up()
                if had_ended:
                    self.assertEqual(told_by(stepper), wanted)
                    break
                self.assertRaises(NotEnded, stepper.outcome)
                self.assertTrue(again == store)
                self.assertTrue(is_history(store, again.journal[many:], store))
                self.assertEqual(again.journal[-2:], (("undo", 0), ("free", 0)))
                self.assertEqual(again.mark(), 0)


class FrameTest(unittest.TestCase):
    """Frames are what a plain reading of the document says, with the values of all variables."""

    def frames(self, stepper):
        found = []
        while stepper.at is not None:
            found.append(stepper.frames)
            stepper.into()
        return found

    def test_procedures(self):
        deepest = 0
        for seed in range(200):
            maker = PlainMaker(seed)
            store = begun(*maker.THINGS, *programs(*maker.programs()))
            plain = Plain(store.copy())
            plain.noted = []
            plain.call("p")
            found = self.frames(Stepper(store, "p", most=5000))
            self.assertEqual(found, plain.noted, seed)
            deepest = max(deepest, *[len(frame[2]) for frames in found for frame in frames])
        self.assertGreater(deepest, 4)

    def test_functions_and_triggers(self):
        stales = longest = 0
        for seed in range(200):
            store = stale_store(seed) if seed < 100 else test_random.HistoryTest().store(seed)
            store.begin()
            whole = Whole(store, 300)
            for word in "qpp":
                whole.noted = []
                ended = whole.call(word)
                found = self.frames(Stepper(store, word, most=300))
                # Where a program is found stale, no statement comes next.
                self.assertEqual(found, whole.noted, seed)
                stales += ended[0] == "stale" and len(found) > 1
                longest = max([longest] + [len(frames) for frames in found])
        self.assertGreater(stales, 3)
        self.assertGreater(longest, 4)
