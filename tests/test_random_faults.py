"""Points 12, 40 and 43: first faults of programs in which parts are exchanged at random."""

import random
import unittest

from deedstore.errors import BadThing
from deedstore.programs import fault, stale
from deedstore.stores import Store
from tests.build import (
    FALSE, NULL, TRUE, block, col, column, equal, function, plus, procedure, programs, sets, table,
    tables, trigger, value, var, variable, view,
)
from tests.makers import VARIABLES, StoreMaker
from tests.plain_faults import Looked

WORDS = ("n", "i", "w", "f", "r", "c", "d", "t", "u", "v", "a", "b", "of", "x", "q", "z", "s", "p", "fun", "rows", "outs", "old", "new",
         "la", "lb", "m", "zz", "e", "fx", "lone", "k")
HEADS = ("leave", "next", "get", "open", "each", "while", "put", "take")

STATEMENTS = (
    ("get", "new", "t", TRUE), ("get", "lone", "u", TRUE), ("open", "d", "v", TRUE), ("fetch", "d", "r", "n"), ("fetch", "e", "lone", "f"),
    ("changeat", "c", sets(a=col("b"))), ("changeat", "e", sets(q=value("x"))), ("takeat", "r"), ("do", "outs", (var("n"), var("w"))),
    ("do", "outs", (NULL, var("w"))), ("do", "rows", (var("c"), var("r"), value(1))), ("do", "rows", (var("c"), var("lone"), value(1), NULL)),
    ("doby", var("n"), ()), ("doby", value("p"), (var("c"), var("zz"))), ("new", "a", value(1)), ("new", "zz", var("zz")), ("skip",),
    ("again",), ("return", value(1)), ("return", None), ("return", value("x")), ("look",), ("mark", "m"), ("set", "r", NULL), ("set", "w", ("word",)),
    ("set", "n", ("told", 0, "text")), ("set", "n", ("call", "rows", (var("c"),))), ("set", "n", ("call", "fx", (var("c"), var("r"), value(1)))),
    ("set", "n", ("call", "fx", (var("c"), NULL, var("zz")))), ("set", "n", ("number", "zz")), ("set", "w", ("case", var("f"), NULL, var("w"))),
    ("fill", "t", sets(a=col("of"), b=col("a")), "u", equal(col("of"), 1), "n"), ("fill", "zz", (), "u", TRUE, None), ("fill", "t", sets(zz=NULL), "zz", TRUE, None),
    ("fill", "t", (), "zz", var("zz"), None), ("change", "v", sets(q=col("z"), z=NULL), equal(col("a"), 1), "n"), ("put", "t", sets(a=1) + sets(a=1), None),
    ("raise", "e", (var("r"), var("zz"))), ("set", "f", equal(var("c"), var("c"))), ("set", "f", ("null", var("r"))), ("if", ((var("c"), ()),), ()),
    ("set", "n", ("field", "lone", "of")), ("set", "n", ("field", "old", "a")), ("set", "n", ("field", "r", "of")), ("set", "n", ("field", "w", "a")),
    ("set", "n", ("sum", "u", col("of"), equal(col("x"), 1))), ("set", "w", ("least", "v", col("a"), TRUE)), ("set", "n", ("most", "t", var("f"), TRUE)),
    ("set", "n", ("count", "t", ("word",))), ("leave", "la"), ("next", "la"), ("close", "n"), ("make", procedure("x")), ("drop", "x"),
    block(variables=(variable("n", "text"), variable("k", "int", var("n")))), block(variables=(variable("k"), variable("k", "text"))),
    block(label="la", last=(("leave", "la"),)), block(variables=(variable("k", ("row", "zz")), variable("k", "int", ("field", "k", "a")))),
    block(variables=(variable("new", ("row", "t")),), handlers=(((), (("get", "new", "t", TRUE), ("again",))),)),
)


SEEDS = (0, 120)


class Changer:
    """Exchanges parts of a program at random."""

    def __init__(self, seed):
        self.random = random.Random(seed)

    def changed(self, tree):
        """The tree with one part otherwise."""
        paths = [path for path in self.paths(tree, ()) if path]
        path = self.random.choice(paths)
        return self.put_at(tree, path, self.other(self.part(tree, path)))

    def paths(self, tree, path):
        yield path
        if isinstance(tree, tuple):
            for k, part in enumerate(tree):
                yield from self.paths(part, (*path, k))

    def part(self, tree, path):
        for k in path:
            tree = tree[k]
        return tree

    def put_at(self, tree, path, new):
        if not path:
            return new
        k = path[0]
        return tree[:k] + (self.put_at(tree[k], path[1:], new),) + tree[k + 1:]

    def other(self, part):
        r = self.random
        if isinstance(part, str):
            if part in ("int", "text", "truth"):
                return r.choice(("int", "text", "truth", ("row", "t"), ("cursor", "v")))
            return r.choice(HEADS if part in HEADS else WORDS)
        if isinstance(part, tuple) and part and part[0] in ("value", "var", "col", "op", "field", "not", "null", "case", "count", "call", "told"):
            return r.choice((value(1), value("x"), TRUE, NULL, var(r.choice(WORDS)), col(r.choice(WORDS)), ("not", part), plus(part, 1),
                             ("field", r.choice(WORDS), r.choice(WORDS)), ("word",), ("told", 1, "int"), ("case", FALSE, part, part)))
        if isinstance(part, tuple) and part and isinstance(part[0], tuple):
            k = r.randrange(len(part))
            return r.choice((part[:k] + part[k + 1:], part[:k] + (part[k],) + part[k:], (r.choice(STATEMENTS),) + part[1:], part[::-1]))
        if isinstance(part, tuple) and part:
            return r.choice(STATEMENTS)
        return r.choice((None, r.choice(WORDS), value(1), (r.choice(STATEMENTS),), ()))


class FaultTest(unittest.TestCase):
    def store(self, maker):
        params = (("k", ("cursor", "t"), "in"), ("r", ("row", "t"), "in"), ("n", "int", "in"))
        return Store.of(*maker.THINGS, *tables(table("lone", column("of", "text"))), ("view", view("vv", "v", (("a", "z"),))), *programs(
            maker.function(), procedure("q"), procedure("p"), procedure("outs", params=(("x", "int", "out"), ("y", "text", "both"))),
            procedure("rows", params=params), function("fx", ("return", NULL), params=params), function("fun", ("return", NULL), kind="text"),
            trigger("lb", "t", "after", "put")))

    def programs(self, maker, r):
        """A right program of each sort."""
        statements = maker.statements(r.randrange(4)) + tuple(r.sample(STATEMENTS, r.randrange(3)))
        variables = VARIABLES + (variable("e", ("cursor", "v")), variable("lone", ("row", "lone")))
        yield procedure("p", *statements, variables=variables, params=(("n", "int", "both"), ("k", ("row", "u"), "in")))
        yield function("g", *statements, variables=variables, params=(("k", ("cursor", "t"), "in"),), kind=r.choice(("int", "text")))
        when, event = r.choice(("before", "after")), r.choice(("put", "change", "take"))
        yield trigger("h", r.choice(("t", "t", "u", "v", "zz")), when, event, *statements, variables=variables)

    def test_programs(self):
        told = {}
        right = 0
        for seed in range(*SEEDS):
            maker = StoreMaker(seed)
            changer = Changer(seed)
            store = self.store(maker)
            for first in self.programs(maker, changer.random):
                for program in [first] + [changer.changed(first) for _ in range(12)] + [changer.changed(changer.changed(first)) for _ in range(6)]:
                    try:
                        found = fault(store, program)
                    except BadThing:
                        continue
                    wanted = Looked(store, program).first()
                    self.assertEqual(found, wanted, (seed, program))
                    right += wanted is None
                    if wanted is not None:
                        key = (program[0], wanted[1][0])
                        told[key] = told.get(key, 0) + 1
        self.assertGreater(right, 50)
        for sort in ("procedure", "function", "trigger"):
            for word in ("name", "kind", "label", "twice", "return", "handler", "trigger"):
                self.assertGreater(told.get((sort, word), 0), 0, (sort, word, told))

    def test_stale(self):
        for seed in range(40):
            maker = StoreMaker(seed)
            r = random.Random(seed)
            store = self.store(maker)
            store.begin()
            store.drop("p", "q")
            found = next(self.programs(maker, r))
            try:
                store.make(*programs(found))
            except BadThing:
                continue
            store.drop(*r.sample(("f", "outs", "rows", "fx", "vv", "lone"), 3))
            wanted = []
            for word in store.programs:
                first = Looked(store, store.thing(word)).first()
                if first is not None:
                    wanted.append((word, *first))
            self.assertEqual(stale(store), wanted)


if __name__ == "__main__":
    unittest.main()
