"""Points 4, 31, 44 to 52 and 61 over many programs that are put together at random."""

import unittest

from deedstore.deeds import straight_deeds
from deedstore.errors import Raised, Stale
from deedstore.logged import LoggedTimedStore
from deedstore.machines import run
from tests.build import TRUE, begun, equal, op, plus, procedure, programs, sets, trigger, value, var
from tests.makers import VARIABLES, PlainMaker, StoreMaker
from tests.plain import Plain
from tests.replay import Replay
from tests.test_traces import history_of


def outcome_of(store, word):
    """How a call ends: its fields, its history and its trace."""
    try:
        outcome = run(store, word, most=300)
    except Raised as e:
        return ("raised", e.word, e.details, e.program, e.place, e.stack, e.causes, e.history, e.trace)
    except Stale as e:
        return ("stale", e.fault, e.word, e.place)
    return ("ended", "well", outcome.results, outcome.history, outcome.trace)


class HistoryTest(unittest.TestCase):
    """The history of a call makes the store behind it, and the log the store behind the commit."""

    def store(self, seed):
        return LoggedTimedStore.of(*self.things(StoreMaker(seed)))

    def things(self, maker):
        calls = ("if", ((op("<", ("count", "t", TRUE), 15), maker.statements(2)),), ())
        event = maker.random.choice(("put", "change", "take"))
        p = maker.bounded(lambda: procedure("p", *maker.statements(3), *maker.statements(3), variables=VARIABLES))
        return (*maker.THINGS, *programs(
            p, procedure("q", *maker.statements(2), variables=VARIABLES, last=maker.statements(1)), maker.function(),
            trigger("g", "t", "after", event, calls, variables=VARIABLES),
            trigger("h", "u", "before", "put", ("if", ((equal(("field", "new", "of"), 3), (("skip",),)),), ()),
                    ("new", "x", ("field", "new", "of")))))

    def call(self, store, word):
        """Calls a procedure and looks at its history and trace; how it ended."""
        replay = Replay(store)
        other = store.copy()
        before = len(store.journal)
        ended = outcome_of(store, word)
        self.assertEqual(ended, outcome_of(other, word))
        self.assertEqual(other.journal, store.journal)
        deeds = store.journal[before:]
        self.assertEqual(replay.do(deeds).state(), Replay(store).state())
        self.assertEqual(replay.marks, [])
        if ended[0] != "stale":
            self.assertEqual(ended[-2], deeds)
            self.assertEqual(history_of(ended[-1]), deeds)
        return ended

    def test_calls(self):
        words = {}
        for seed in range(150):
            store = self.store(seed)
            store.begin()
            start = Replay(store)
            for _ in range(3):
                ended = self.call(store, "p")
                words[ended[1]] = words.get(ended[1], 0) + 1
            begin = Replay(store.behind(1))
            begin.numbers = dict(start.numbers)
            self.assertEqual(begin.do(straight_deeds(store.journal)).state(), Replay(store).state())
            self.check_commit(store)
        # Calls end in many ways.
        self.assertGreater(len(words), 10)
        self.assertGreater(words["well"], 20)

    def check_commit(self, store):
        copy = store.copy()
        try:
            store.commit()
        except Raised as raised:
            self.assertEqual(raised.word, "refer")
            self.assertTrue(store == store.behind(1))
            return
        again = LoggedTimedStore.recovered(store.log)
        self.assertTrue(again == store == copy)
        self.assertTrue(again.behind(2) == store and again.behind(1) == store.behind(1))
        for word in store.tables:
            for number, _ in store.rows(word):
                for name in [part[0] for part in store.thing(word)[1]]:
                    self.assertEqual(store.cause(word, number, name), again.cause(word, number, name))
        self.assertTrue(LoggedTimedStore.recovered(store.checkpoint()) == store)


class PlainTest(unittest.TestCase):
    """Programs do what a plain reading of the document says, step by step."""

    def test_calls(self):
        words = {}
        for seed in range(400):
            maker = PlainMaker(seed)
            store = begun(*maker.THINGS, *programs(*maker.programs()))
            for a in (0, 1, 2):
                store.put("t", sets(a=a))
            other = store.copy()
            try:
                outcome = run(store, "p", most=5000)
                found, trace = outcome.results, outcome.trace
            except Raised as e:
                found, trace = (e.word, e.details, e.program, e.place, e.stack, e.causes), e.trace
            wanted, wanted_trace = Plain(other).call("p")
            self.assertEqual(found, wanted, seed)
            self.assertEqual([entry for entry in trace if entry[0] != "deed"], wanted_trace, seed)
            self.assertEqual(store.journal, other.journal, seed)
            words[found[0]] = words.get(found[0], 0) + 1
        self.assertGreater(len(words), 8)


class CallTest(unittest.TestCase):
    """A call of a function gives what its expression gives, wherever it stands."""

    def swapped(self, tree, is_inline):
        """The tree with f(e) as a call or as e + 1."""
        if not isinstance(tree, tuple):
            return tree
        if len(tree) == 3 and tree[:2] == ("call", "f"):
            arg = self.swapped(tree[2][0], is_inline)
            return plus(arg, 1) if is_inline else ("call", "f", (arg,))
        return tuple(self.swapped(part, is_inline) for part in tree)

    def stripped(self, trace):
        """The trace without deeds and without what functions do."""
        found = []
        within = 0
        for entry in trace:
            within += entry == ("enter", "f")
            if not within and entry[0] != "deed":
                found.append(entry)
            within -= bool(within and entry[0] == "leave")
        return found

    def test_calls(self):
        many = 0
        for seed in range(150):
            maker = StoreMaker(seed)
            f = ("function", "f", (("k", "int", "in"),), "int", ("block", None, (), (("return", plus(var("k"), 1)),), (), ()))
            p = maker.bounded(lambda: procedure("p", *maker.statements(3), variables=VARIABLES))
            if "'do'" in str(p):
                continue
            ended = []
            for is_inline in (True, False):
                store = begun(*maker.THINGS, *programs(f, self.swapped(p, is_inline)))
                store.put("t", sets(a=value(2), b=value(1)))
                found = outcome_of(store, "p")
                ended.append((found[:-2], store.journal, self.stripped(found[-1])))
            if "long" not in (ended[0][0][1], ended[1][0][1]):
                self.assertEqual(ended[0], ended[1], seed)
                many += "'call'" in str(p)
        self.assertGreater(many, 20)
