"""Points 42 and 47 to 49: a block around a procedure's block changes nothing but places."""

import unittest

from deedstore.errors import Raised, Stale
from deedstore.machines import run
from deedstore.programs import fault
from deedstore.steppers import Stepper
from deedstore.trees import is_bounded
from tests.build import StoreTest, begun, block, do, handler, procedure, programs, put, raise_, table
from tests import test_random


def wrapped(program):
    """The procedure with a block around its block."""
    return (*program[:3], block(program[3]))


class Unwrapped:
    """Takes the outer block of these programs out of what a call tells."""

    def __init__(self, words):
        self.words = words

    def place(self, program, place):
        if program not in self.words:
            return place
        assert place[:2] == (0, 0), place
        return place[2:]

    def trace(self, trace):
        found = []
        running = []
        for entry in trace:
            if entry[0] == "enter":
                running.append(entry[1])
            if entry[0] in ("at", "catch", "last"):
                if entry == ("at", ()) and running[-1] in self.words:
                    continue
                entry = (entry[0], self.place(running[-1], entry[1]), *entry[2:])
            found.append(entry)
            if entry[0] == "leave":
                running.pop()
        return tuple(found)

    def stack(self, stack):
        return tuple((word, self.place(word, place)) for word, place in stack)

    def ended(self, action):
        """How a call ends, without the outer blocks."""
        try:
            outcome = action()
        except Raised as e:
            causes = tuple((word, details, program, self.place(program, place)) for word, details, program, place in e.causes)
            return (e.word, e.details, e.program, self.place(e.program, e.place), self.stack(e.stack), causes, e.history, self.trace(e.trace))
        except Stale as e:
            return (e.word, self.place(e.word, e.place), e.fault)
        return (outcome.results, outcome.history, self.trace(outcome.trace))


class WrappedTest(unittest.TestCase):
    def test_random_calls(self):
        many = stales = 0
        plain, without = Unwrapped(()), Unwrapped(("p", "q"))
        for seed in range(150):
            store = test_random.HistoryTest().store(seed)
            store.begin()
            other = store.copy()
            trees = [wrapped(store.thing(word)) for word in "pq"]
            if not all(map(is_bounded, trees)):
                continue
            other.drop("p", "q")
            other.make(*programs(*trees))
            first = len(other.journal)
            many += 1
            for word in "qpp":
                wanted = plain.ended(lambda: run(store, word, most=300))
                found = without.ended(lambda: run(other, word, most=300))
                stales += len(wanted) == 3 and wanted[0] in ("p", "q")
                self.assertEqual(found, wanted, seed)
                self.assertEqual(other.journal[first:], store.journal)
            for word in store.tables:
                self.assertEqual(list(other.rows(word)), list(store.rows(word)))
        self.assertGreater(many, 100)


class PlaceTest(StoreTest):
    def test_faults(self):
        p = procedure("p", put("t"), block(do("q"), last=(("look",),)))
        store = begun(("table", table("t", "a")))
        self.assertEqual(fault(store, p), ((0, 1, 0, 0), ("name", "q")))
        self.assertEqual(fault(store, wrapped(p)), ((0, 0, 0, 1, 0, 0), ("name", "q")))

    def test_marks_of_programs(self):
        # A block without handlers is none that marks belong to.
        p = procedure("p", ("mark", "m"), put("t"), block(("back", "m")), put("t"), last=(raise_("e"),), handlers=(handler("x"),))
        for tree in (p, wrapped(p), wrapped(wrapped(p))):
            store = begun(("table", table("t", "a")), *programs(tree))
            error = self.raised(run, store, "p")
            self.assertEqual((error.word, error.history), ("e", (
                ("mark", 0), ("mark", 1), ("mark", 2), ("put", "t", 0, (None,)), ("undo", 2), ("put", "t", 1, (None,)), ("free", 1),
                ("undo", 0), ("free", 0))))

    def test_steps_and_frames(self):
        store = begun(*programs(wrapped(procedure("p", ("look",)))))
        stepper = Stepper(store, "p")
        found = []
        while stepper.at is not None:
            found.append(stepper.frames[0][1:])
            stepper.into()
        self.assertEqual(found, [((), ({},)), ((0, 0), ({}, {})), ((0, 0, 0, 0), ({}, {}, {}))])


if __name__ == "__main__":
    unittest.main()
