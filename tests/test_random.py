"""Points 4, 31, 52 and 61 over many programs that are put together at random."""

import random
import unittest

from deedstore.deeds import straight_deeds
from deedstore.errors import Raised, Stale
from deedstore.logged import LoggedTimedStore
from deedstore.machines import run
from deedstore.trees import is_bounded
from tests.build import (
    FALSE, NULL, TRUE, block, col, column, equal, function, op, plus, procedure, programs, sets,
    table, tables, trigger, value, var, variable, view,
)
from tests.replay import Replay
from tests.test_traces import history_of

T = table("t", column("a", default=("number", "s")), "b", keys=(("a",),), checks=(("c", op("<", col("a"), 60)),))
U = table("u", column("of"), column("x", default=0), references=(("r", ("of",), "t", "cascade", False),
                                                                  ("n", ("x",), "t", "null", True)))
V = view("v", "t", (("q", "a"), ("z", "b")), op("<", col("a"), 12), True)
VARIABLES = (variable("n", "int", 1), variable("w", "text"), variable("f", "truth"), variable("r", ("row", "t")),
             variable("c", ("cursor", "t")))
WORDS = ("e", "key", "refer", "division", "cursor", "gone", "mark", "depth", "check", "view", "norow", "manyrows")


class Maker:
    """Makes statements at random that have no fault."""

    def __init__(self, seed):
        self.random = random.Random(seed)

    def integer(self, columns=()):
        r = self.random
        choice = r.randrange(10)
        if choice < 3:
            return value(r.choice((0, 1, 2, 3, 5, 8, None)))
        if choice < 6:
            return col(r.choice(columns)) if columns else var("n")
        if choice < 8:
            return op(r.choice(("+", "-", "*", "mod", "div")), self.integer(columns), self.integer(columns))
        return r.choice((("count", "t", TRUE), ("most", "t", col("a"), TRUE), ("field", "r", "a"),
                         ("call", "f", (self.small(columns),)), ("sum", "u", col("of"), op("<", col("of"), var("n")))))

    def small(self, columns):
        return col(columns[0]) if columns else value(self.random.randrange(4))

    def truth(self, columns=()):
        r = self.random
        if r.random() < 0.2:
            return r.choice((TRUE, TRUE, FALSE, NULL))
        return op(r.choice(("<", "=", "<")), self.integer(columns), self.integer(columns))

    def statements(self, deep, labels=(), in_handler=False):
        return tuple(self.statement(deep, labels, in_handler) for _ in range(self.random.randrange(1, 4)))

    def statement(self, deep, labels, in_handler):
        r = self.random
        if deep > 0 and r.random() < 0.5:
            return self.deep_statement(deep - 1, labels, in_handler)
        simple = [
            ("set", "n", self.integer()), ("put", "t", sets(b=self.integer()), None),
            ("put", "t", sets(a=self.integer()), "n"), ("put", "u", sets(of=self.integer()), None),
            ("fill", "u", sets(of=col("a")), "t", self.truth(("a", "b")), None),
            ("change", "t", sets(a=self.integer(("a", "b"))), self.truth(("a", "b")), "n"),
            ("change", "u", sets(of=self.integer(("of", "x"))), self.truth(("of", "x")), None),
            ("take", "t", self.truth(("a", "b")), None), ("put", "v", sets(q=self.integer()), None),
            ("change", "v", sets(q=self.integer(("q", "z"))), self.truth(("q", "z")), None),
            ("get", "r", "t", self.truth(("a", "b"))), ("open", "c", "t", self.truth(("a", "b"))), ("fetch", "c", "r", "f"),
            ("fetch", "c", "r", "f"), ("changeat", "c", sets(b=self.integer(("a", "b")))), ("takeat", "c"), ("close", "c"),
            ("mark", "m"), ("mark", "k"), ("back", "m"), ("back", "k"), ("free", "m"), ("look",),
            ("raise", "e", (self.integer(),)), ("do", r.choice("pq"), ()), ("return", None), ("set", "f", self.truth()),
            ("make", procedure("made")), ("drop", "made"), ("doby", value("made"), ()),
        ]
        if labels:
            label, is_loop = r.choice(labels)
            simple += [("leave", label)] + [("next", label)] * is_loop
        if in_handler:
            simple += [("again",), ("set", "n", ("told", 0, "int")), ("set", "w", ("word",))]
        return r.choice(simple)

    def deep_statement(self, deep, labels, in_handler):
        r = self.random
        label = "l" + "abcdefgh"[len(labels)]
        choice = r.randrange(6)
        if choice == 0:
            return ("if", ((self.truth(), self.statements(deep, labels, in_handler)),), self.statements(deep, labels, in_handler))
        if choice == 1:
            inner = labels + ((label, True),)
            return ("while", label, self.truth(), self.statements(deep, inner, in_handler))
        if choice == 2:
            inner = labels + ((label, True),)
            return ("each", label, "r", "t", self.truth(("a", "b")), self.statements(deep, inner, in_handler))
        inner = labels + ((label, False),)
        handlers = []
        for _ in range(r.randrange(3)):
            words = tuple(r.sample(WORDS, r.randrange(4)))
            handlers.append((words, self.statements(deep, inner, True)))
        last = self.statements(deep, labels, in_handler) if r.random() < 0.4 else ()
        variables = (variable("n", "int", self.integer()),) if r.random() < 0.3 else ()
        return block(*self.statements(deep, inner, in_handler), label=label, variables=variables, handlers=handlers, last=last)

    def store(self):
        f = function("f", ("if", ((op("<", 2, var("k")), (("return", value(2)),)),), ()), ("return", plus(var("k"), 1)),
                     params=(("k", "int", "in"),))
        calls = ("if", ((op("<", ("count", "t", TRUE), 15), self.statements(2)),), ())
        g = trigger("g", "t", "after", self.random.choice(("put", "change", "take")), calls, variables=VARIABLES)
        h = trigger("h", "u", "before", "put", ("if", ((equal(("field", "new", "of"), 3), (("skip",),)),), ()),
                    ("new", "x", ("field", "new", "of")))
        p = procedure("p")
        while p == procedure("p") or not is_bounded(p):
            p = procedure("p", *self.statements(3), *self.statements(3), variables=VARIABLES)
        return LoggedTimedStore.of(
            ("sequence", ("s", 1, 1)), *tables(T, U), ("view", V), *programs(
                p, procedure("q", *self.statements(2), variables=VARIABLES, last=self.statements(1)), f, g, h))


class RandomTest(unittest.TestCase):
    def call(self, store, word):
        """Calls a procedure and looks at its history and trace; how it ended."""
        replay = Replay(store)
        other = store.copy()
        before = len(store.journal)
        ended = outcome_of(store, word)
        again = outcome_of(other, word)
        self.assertEqual(ended, again)
        self.assertEqual(other.journal, store.journal)
        deeds = store.journal[before:]
        self.assertEqual(replay.do(deeds).state(), Replay(store).state())
        self.assertEqual(replay.marks, [])
        if ended[0] != "stale":
            self.assertEqual(ended[-2], deeds)
            self.assertEqual(history_of(ended[-1]), deeds)
        return ended

    def test_calls(self):
        words = {}
        for seed in range(150):
            store = Maker(seed).store()
            store.begin()
            start = Replay(store)
            for a in (1, 2, 3):
                store.put("t", sets(b=a)) if "g" not in store.programs else None
            for _ in range(3):
                ended = self.call(store, "p")
                words[ended[1]] = words.get(ended[1], 0) + 1
            begin = Replay(store.behind(1))
            begin.numbers = dict(start.numbers)
            straight = straight_deeds(store.journal)
            self.assertEqual(begin.do(straight).state(), Replay(store).state())
            self.check_commit(store)
        # Calls end in many ways, and many end well.
        self.assertGreater(len(words), 10)
        self.assertGreater(words["well"], 50)

    def check_commit(self, store):
        copy = store.copy()
        try:
            store.commit()
        except Raised as raised:
            self.assertEqual(raised.word, "refer")
            self.assertTrue(store == store.behind(1))
            return
        again = LoggedTimedStore.recovered(store.log)
        self.assertTrue(again == store == copy)
        self.assertTrue(again.behind(2) == store and again.behind(1) == store.behind(1))
        for word in store.tables:
            for number, row in store.rows(word):
                for name in [part[0] for part in store.thing(word)[1]]:
                    self.assertEqual(store.cause(word, number, name), again.cause(word, number, name))
        self.assertTrue(LoggedTimedStore.recovered(store.checkpoint()) == store)


def outcome_of(store, word):
    """How a call ends: its fields, its history and its trace."""
    try:
        outcome = run(store, word, most=300)
    except Raised as e:
        return ("raised", e.word, e.details, e.program, e.place, e.stack, e.causes, e.history, e.trace)
    except Stale as e:
        return ("stale", e.fault, e.word, e.place)
    return ("ended", "well", outcome.results, outcome.history, outcome.trace)
