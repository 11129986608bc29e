"""Programs that are put together at random, and have no fault."""

import random

from deedstore.trees import is_bounded
from tests.build import (
    FALSE, NULL, TRUE, block, col, column, function, op, plus, procedure, sets, table, value, var,
    variable, view,
)

WORDS = ("e", "k", "key", "check", "refer", "division", "cursor", "gone", "mark", "depth", "view", "norow", "manyrows")


class Maker:
    """Makes statements at random; a class below tells of the simple ones and of integers."""

    COLUMNS = ()
    DEEP = 3

    def __init__(self, seed):
        self.random = random.Random(seed)

    def integer(self, columns=()):
        raise NotImplementedError

    def simple(self):
        raise NotImplementedError

    def truth(self, columns=()):
        r = self.random
        if r.random() < 0.3:
            return r.choice((TRUE, TRUE, TRUE, FALSE, NULL))
        return op(r.choice("<="), self.integer(columns), self.integer(columns))

    def statements(self, deep, labels=(), in_handler=False, least=1):
        many = self.random.randrange(least, 4)
        return tuple(self.statement(deep, labels, in_handler) for _ in range(many))

    def statement(self, deep, labels, in_handler):
        r = self.random
        if deep > 0 and r.random() < 0.55:
            return self.deep_statement(deep - 1, labels, in_handler)
        found = self.simple() + [
            ("fetch", "c", "r", "f"), ("fetch", "c", "r", "f"), ("takeat", "c"), ("close", "c"), ("mark", "m"),
            ("mark", "k"), ("back", "m"), ("back", "k"), ("free", "m"), ("look",), ("raise", "e", (self.integer(),)),
            ("raise", "k", ()), ("return", None), ("set", "f", self.truth()), ("set", "n", self.integer()),
            ("open", "c", "t", self.truth(self.COLUMNS)), ("get", "r", "t", self.truth(self.COLUMNS)),
            ("take", "t", self.truth(self.COLUMNS), None),
        ]
        if labels:
            label, is_loop = r.choice(labels)
            found += [("leave", label)] * 3 + [("next", label)] * (2 * is_loop)
        if in_handler:
            found += [("again",), ("again",), ("set", "n", ("told", 0, "int")), ("set", "w", ("word",))]
        return r.choice(found)

    def deep_statement(self, deep, labels, in_handler):
        r = self.random
        label = "l" + "abcdefgh"[len(labels)]
        choice = r.randrange(7)
        if choice == 0:
            inner = self.statements(deep, labels, in_handler)
            return ("if", ((self.truth(), inner),), self.statements(deep, labels, in_handler, 0))
        in_loop = labels + ((label, True),)
        if choice == 1:
            inner = (("set", "i", plus(var("i"), 1)),) + self.statements(deep, in_loop, in_handler)
            return ("while", label, op("<", var("i"), 3), inner)
        if choice == 2:
            return ("each", label, "r", "t", self.truth(self.COLUMNS), self.statements(deep, in_loop, in_handler))
        return self.block(deep, labels, label, in_handler)

    def block(self, deep, labels, label, in_handler):
        r = self.random
        inner = labels + ((label, False),)
        handlers = []
        for _ in range(r.randrange(3)):
            words = tuple(r.sample(WORDS, r.randrange(6)))
            handlers.append((words, self.statements(deep, inner, True, 0)))
        last = self.statements(deep, labels, in_handler) if r.random() < 0.5 else ()
        variables = (variable("i", "int", 0),)
        if r.random() < 0.3:
            variables += (variable("n", "int", self.integer()),)
        if r.random() < 0.2:
            variables += (variable("c", ("cursor", "t")),)
        statements = self.statements(deep, inner, in_handler)
        return block(*statements, label=label, variables=variables, handlers=handlers, last=last)

    def bounded(self, make):
        """What make makes, as soon as it is in the bounds of trees."""
        found = make()
        while not is_bounded(found):
            found = make()
        return found


VARIABLES = (
    variable("n", "int", 1), variable("i", "int", 0), variable("w", "text"), variable("f", "truth"),
    variable("r", ("row", "t")), variable("c", ("cursor", "t")), variable("d", ("cursor", "t")),
)


class StoreMaker(Maker):
    """Makes programs over two tables with a key, a check and references, and a whole view."""

    COLUMNS = ("a", "b")
    THINGS = (
        ("sequence", ("s", 1, 1)),
        ("table", table("t", column("a", default=("number", "s")), "b", keys=(("a",),),
                        checks=(("c", op("<", col("a"), 60)),))),
        ("table", table("u", column("of"), column("x", default=0), references=(
            ("r", ("of",), "t", "cascade", False), ("n", ("x",), "t", "null", True)))),
        ("view", view("v", "t", (("q", "a"), ("z", "b")), op("<", col("a"), 12), True)),
    )

    def integer(self, columns=()):
        r = self.random
        choice = r.randrange(10)
        if choice < 3:
            return value(r.choice((0, 1, 2, 3, 5, 8, None)))
        if choice < 6:
            return col(r.choice(columns)) if columns else var("n")
        if choice < 8:
            return op(r.choice(("+", "-", "*", "mod", "div")), self.integer(columns), self.integer(columns))
        small = col(columns[0]) if columns else value(r.randrange(4))
        return r.choice((("count", "t", TRUE), ("most", "t", col("a"), TRUE), ("field", "r", "a"), ("call", "f", (small,)),
                         ("sum", "u", col("of"), op("<", col("of"), var("n")))))

    def simple(self):
        own, u, v = ("a", "b"), ("of", "x"), ("q", "z")
        return [
            ("put", "t", sets(b=self.integer()), None), ("put", "t", sets(a=self.integer()), "n"),
            ("put", "u", sets(of=self.integer()), None), ("put", "v", sets(q=self.integer()), None),
            ("fill", "u", sets(of=col("a")), "t", self.truth(own), None),
            ("change", "t", sets(a=self.integer(own)), self.truth(own), "n"),
            ("change", "u", sets(of=self.integer(u)), self.truth(u), None),
            ("change", "v", sets(q=self.integer(v)), self.truth(v), None), ("changeat", "c", sets(b=self.integer(own))),
            ("do", self.random.choice("pq"), ()), ("make", procedure("made")), ("drop", "made"), ("doby", value("made"), ()),
        ]

    def function(self):
        first = ("if", ((op("<", 2, var("k")), (("return", value(2)),)),), ())
        return function("f", first, ("return", plus(var("k"), 1)), params=(("k", "int", "in"),))


class StaleMaker(StoreMaker):
    """The same, with programs that name one that is dropped and made again."""

    def simple(self):
        r = self.random
        other = r.choice((procedure("made"), procedure("made", params=(("k", "int", "in"),)), procedure("made", ("do", "zz", ()))))
        again = [("make", other), ("drop", "made")]
        return super().simple() + r.choice(([("do", "made", ())], [("doby", value("again"), ())], [])) + r.choice(([], again))


class PlainMaker(Maker):
    """Makes programs without functions and triggers over one table, of which the column no tells the rows apart."""

    COLUMNS = ("no", "a", "b")
    THINGS = (
        ("sequence", ("s", 0, 1)),
        ("table", table("t", column("no", default=("number", "s")), column("a", default=0), "b", keys=(("no",),),
                        checks=(("c", op("<", col("a"), 9)),),
                        references=(("r", ("b",), "t", "keep", False), ("l", ("a",), "t", "keep", True)))),
    )

    def integer(self, columns=()):
        r = self.random
        choice = r.randrange(8)
        if choice < 3:
            return value(r.choice((0, 1, 2, 3, None)))
        if choice < 5:
            return col(r.choice(columns)) if columns else var("n")
        if choice < 6:
            return ("field", "r", r.choice(self.COLUMNS))
        if choice < 7:
            return ("count", "t", op("<", col("no"), value(r.randrange(6))))
        return op(r.choice(("+", "-", "div")), self.integer(columns), self.integer(columns))

    def simple(self):
        return [
            ("put", "t", sets(a=self.integer()), None), ("put", "t", sets(b=self.integer()), "n"), ("open", "c", "t", TRUE),
            ("change", "t", sets(a=self.integer(self.COLUMNS)), self.truth(self.COLUMNS), "n"), ("open", "d", "t", TRUE),
            ("fetch", "d", "r", "f"), ("changeat", "c", sets(a=self.integer(self.COLUMNS))), ("changeat", "d", sets(b=NULL)),
            ("do", "q", (self.integer(), var("n"), var("c"))),
        ]

    def programs(self):
        p = self.bounded(lambda: procedure(
            "p", *self.statements(3), *self.statements(3), *self.statements(2), params=(("x", "int", "out"),),
            variables=VARIABLES, last=(("set", "x", var("n")),)))
        params = (("n", "int", "in"), ("y", "int", "both"), ("c", ("cursor", "t"), "in"))
        statements = [statement for statement in self.statements(2) if "'do'" not in str(statement)]
        variables = [part for part in VARIABLES if part[0] not in ("n", "c")]
        return p, procedure("q", *statements, params=params, variables=variables)
