"""Points 2, 40 and 41: the forms of programs and their statements."""

from deedstore.errors import BadThing
from deedstore.programs import fault
from deedstore.stores import Store
from tests.build import (
    NULL, TRUE, StoreTest, begun, block, function, procedure, programs, set_, trigger, value, var,
)
from tests.helpers import nested

EMPTY = block()
NOT_WORDS = ("", "A", "a1", "abcdefghi", None, 5, True, (), ("a",), ["a"])
NOT_ES = (None, 5, "a", True, (), ("value",), ["value", 1], ("x", 1), ("op", "?", NULL, NULL))
NOT_TUPLES = (None, 5, "a", True, [], {})

# One right statement of each head.
RIGHT = (
    EMPTY,
    set_("n", 1),
    ("if", ((TRUE, (EMPTY,)),), (EMPTY, EMPTY)),
    ("while", None, TRUE, (EMPTY,)),
    ("each", "l", "r", "t", TRUE, ()),
    ("leave", "l"),
    ("next", "l"),
    ("return", None),
    ("put", "t", (("a", value(1)),), None),
    ("fill", "t", (), "u", TRUE, "n"),
    ("change", "t", (("a", value(1)), ("a", value(1))), TRUE, None),
    ("take", "t", TRUE, "n"),
    ("get", "r", "t", TRUE),
    ("open", "c", "t", TRUE),
    ("fetch", "c", "r", "f"),
    ("changeat", "c", (("a", value(1)),)),
    ("takeat", "c"),
    ("close", "c"),
    ("mark", "m"),
    ("back", "m"),
    ("free", "m"),
    ("look",),
    ("raise", "x", (value(1), value("a"))),
    ("again",),
    ("do", "p", (var("n"), value(1))),
    ("doby", value("p"), (var("n"),)),
    ("make", procedure("q", set_("n", 1))),
    ("drop", "q"),
    ("new", "a", value(1)),
    ("skip",),
)


class FormTest(StoreTest):
    def is_form(self, program):
        store = begun(("program", program))
        self.assertEqual(store.thing(program[1]), program)
        # Whether it has a fault is another question, which can be asked.
        fault(Store(), program)

    def is_none(self, program, word="p"):
        self.fails(BadThing, ("form", word), Store.of, ("program", program))
        self.fails(BadThing, ("form", word), fault, Store(), program)

    def is_statement(self, statement):
        for program in (procedure("p", EMPTY, statement), function("p", statement), procedure("p", last=(statement,)),
                        procedure("p", handlers=(((), (statement,)),)), procedure("p", ("if", (), (statement,))),
                        trigger("p", "t", "before", "put", ("while", "l", TRUE, (statement,)))):
            self.is_form(program)

    def is_no_statement(self, statement):
        self.is_none(procedure("p", EMPTY, statement))
        self.is_none(procedure("p", last=(statement,)))
        self.is_none(procedure("p", handlers=(((), (statement,)),)))
        self.is_none(procedure("p", ("if", ((TRUE, (statement,)),), ())))
        self.is_none(procedure("p", ("each", None, "r", "t", TRUE, (statement,))))
        self.is_none(procedure("p", ("make", procedure("q", statement))))

    def replaced(self, statement, at, wrongs):
        for wrong in wrongs:
            self.is_no_statement(statement[:at] + (wrong,) + statement[at + 1:])

    def test_right_ones(self):
        for statement in RIGHT:
            self.is_statement(statement)

    def test_too_few_and_too_many_parts(self):
        for statement in RIGHT:
            for k in range(1, len(statement)):
                self.is_no_statement(statement[:k])
            self.is_no_statement(statement + (None,))
            self.is_no_statement(list(statement))

    def test_no_statements(self):
        for x in (None, 5, "look", (), ("look",) * 2, ("none",), (None,), (("look",),), ([],), ("Look",), {}):
            self.is_no_statement(x)

    def test_words(self):
        for head, ats in (
            ("set", (1,)), ("each", (2, 3)), ("leave", (1,)), ("next", (1,)), ("put", (1,)), ("fill", (1, 3)),
            ("change", (1,)), ("take", (1,)), ("get", (1, 2)), ("open", (1, 2)), ("fetch", (1, 2, 3)),
            ("changeat", (1,)), ("takeat", (1,)), ("close", (1,)), ("mark", (1,)), ("back", (1,)), ("free", (1,)),
            ("raise", (1,)), ("do", (1,)), ("drop", (1,)), ("new", (1,)),
        ):
            for at in ats:
                self.replaced(right(head), at, NOT_WORDS)

    def test_words_or_none(self):
        for head, at in (("block", 1), ("while", 1), ("each", 1), ("put", 3), ("fill", 5), ("change", 4), ("take", 3)):
            self.replaced(right(head), at, [x for x in NOT_WORDS if x is not None])
            self.is_statement(right(head)[:at] + ("w",) + right(head)[at + 1:])

    def test_expressions(self):
        for head, at in (("set", 2), ("while", 2), ("each", 4), ("fill", 4), ("change", 3), ("take", 2), ("get", 3),
                         ("open", 3), ("doby", 1), ("new", 2)):
            self.replaced(right(head), at, NOT_ES)
        self.replaced(right("return"), 1, [e for e in NOT_ES if e is not None])
        self.is_statement(("return", value(1)))
        for head, at in (("raise", 2), ("do", 2), ("doby", 2)):
            self.replaced(right(head), at, NOT_TUPLES + tuple((e,) for e in NOT_ES))
            self.is_statement(right(head)[:at] + ((),))

    def test_expressions_of_programs(self):
        for e in (("word",), ("told", 0, "int"), ("told", 10 ** 50, "truth"), ("field", "r", "a"), var("n"),
                  ("call", "f", (("word",),)), ("count", "t", ("told", 1, "truth")), ("number", "s")):
            self.is_statement(set_("n", e))
        for e in (("word", 1), ("told",), ("told", 0), ("told", -1, "int"), ("told", True, "int"), ("told", "0", "int"),
                  ("told", 0, "row"), ("told", 0, None), ("told", 0, ["int"]), ("field", "r"), ("call", "f", var("n"))):
            self.is_no_statement(("set", "n", e))
            self.is_no_statement(("set", "n", ("not", e)))

    def test_sets(self):
        for head, at in (("put", 2), ("fill", 2), ("change", 2), ("changeat", 2)):
            wrongs = [(x,) for x in (None, 5, "ab", (), ("a",), ("a", 5), ("A", TRUE), ["a", TRUE], ("a", TRUE, 1))]
            self.replaced(right(head), at, NOT_TUPLES + tuple(wrongs))
            self.is_statement(right(head)[:at] + ((),) + right(head)[at + 1:])

    def test_statements_within(self):
        for head, at in (("block", 3), ("block", 5), ("if", 2), ("while", 3), ("each", 5)):
            self.replaced(right(head), at, NOT_TUPLES + ((None,), (5,), (("look",), ("x",)), (["look"],)))

    def test_branches(self):
        self.replaced(right("if"), 1, NOT_TUPLES + tuple((x,) for x in (
            None, (), (TRUE,), (TRUE, None), (5, ()), [TRUE, ()], (TRUE, (), ()), (TRUE, (5,)))))
        self.is_statement(("if", (), ()))

    def test_variables(self):
        self.replaced(EMPTY, 2, NOT_TUPLES + tuple((x,) for x in (
            None, (), ("a",), ("a", "int"), ("A", "int", None), ("a", "Int", None), ("a", None, None),
            ("a", "int", 5), ("a", "int", None, 1), ["a", "int", None], ("a", ("row",), None), ("a", ("row", "T"), None),
            ("a", ("table", "t"), None), ("a", ("row", "t", 1), None), ("a", ["row", "t"], None),
            ("a", ("row", "t"), NULL), ("a", ("cursor", "t"), NULL))))
        for kind in ("int", "text", "truth", ("row", "t"), ("cursor", "t")):
            self.is_statement(block(variables=(("a", kind, None),)))
        self.is_statement(block(variables=(("a", "int", value("x")), ("a", "int", None))))

    def test_handlers(self):
        self.replaced(EMPTY, 4, NOT_TUPLES + tuple((x,) for x in (
            None, (), ((),), ((), None), ("x", ()), (("X",), ()), (["x"], ()), [(), ()], ((), (), ()), ((), (5,)),
            ((None,), ()))))
        self.is_statement(block(handlers=(((), ()), (("a", "b", "a"), (("again",),)))))

    def test_programs_that_are_made(self):
        self.replaced(right("make"), 1, (None, 5, "q", (), ("procedure", "q"), EMPTY, ["procedure", "q", (), EMPTY],
                                         ("procedure", "Q", (), EMPTY), ("procedure", "q", (), ("look",))))
        self.is_statement(("make", procedure("q", ("make", function("f")))))

    def test_procedures(self):
        for x in (None, 5, "p", (), ("procedure",), {}):
            self.is_none(x, None)
        p = procedure("p")
        self.is_none(list(p), None)
        for x in (p[:3], p + (1,), ("Procedure",) + p[1:], p[:3] + (None,), p[:3] + (("look",),), p[:3] + ((),),
                  p[:3] + (list(EMPTY),), p[:2] + (None, EMPTY), p[:2] + ([], EMPTY)):
            self.is_none(x)
        self.is_none(("procedure", "p", (), EMPTY, EMPTY))
        self.is_none(("procedure", "p", EMPTY))
        for word in NOT_WORDS:
            self.is_none(("procedure", word, (), EMPTY), None)

    def test_params(self):
        for kind in ("int", "text", "truth"):
            for way in ("in", "out", "both"):
                self.is_form(procedure("p", params=(("a", kind, way), ("a", kind, way))))
        for kind in (("row", "t"), ("cursor", "t")):
            self.is_form(procedure("p", params=(("a", kind, "in"),)))
            self.is_form(function("p", params=(("a", kind, "in"),)))
            for way in ("out", "both"):
                self.is_none(procedure("p", params=(("a", kind, way),)))
        for x in (None, 5, (), ("a",), ("a", "int"), ("A", "int", "in"), ("a", "x", "in"), ("a", "int", "x"),
                  ("a", "int", None), ["a", "int", "in"], ("a", "int", "in", 1), ("a", ("row", 5), "in")):
            self.is_none(procedure("p", params=(x,)))
            self.is_none(function("p", params=(x,)))
        for way in ("out", "both"):
            self.is_none(function("p", params=(("a", "int", way),)))

    def test_functions(self):
        for kind in ("int", "text", "truth"):
            self.is_form(function("p", kind=kind))
        for kind in ("x", None, ("row", "t"), 5, ["int"]):
            self.is_none(function("p", kind=kind))
        self.is_none(function("p")[:4])
        self.is_none(function("p") + (1,))
        self.is_none(("function", "p", (), "int", EMPTY, EMPTY))
        self.is_none(("function", "p", (), EMPTY))

    def test_triggers(self):
        for when in ("before", "after"):
            for event in ("put", "change", "take"):
                self.is_form(trigger("p", "t", when, event))
        for at, wrongs in ((2, NOT_WORDS), (3, ("in", None, "Before", ["after"])), (4, ("fill", None, "Put", ["put"])),
                           (5, (None, (), ("look",)))):
            for wrong in wrongs:
                x = trigger("p", "t", "after", "put")
                self.is_none(x[:at] + (wrong,) + x[at + 1:])
        self.is_none(("none", "p", "t", "before", "put", EMPTY))
        self.is_none(trigger("p", "t", "after", "put") + (EMPTY,))
        self.is_none(("trigger", "p", "t", "after", EMPTY))
        self.is_none(trigger("p", "t", "after", "put")[:5])
        self.is_none(trigger("p", "t", "after", "put") + (1,))


def right(head):
    return next(statement for statement in RIGHT if statement[0] == head)


class BoundsTest(StoreTest):
    def test_thirty_deep(self):
        e = TRUE
        # The program, its block, the statements and the statement are one deep each.
        for _ in range(24):
            e = ("not", e)
        self.assertEqual(Store.of(*programs(procedure("p", set_("n", e)))).programs, ("p",))
        self.fails(BadThing, ("form", "p"), Store.of, *programs(procedure("p", set_("n", ("not", e)))))
        statement = block()
        for _ in range(13):
            statement = block(statement)
        self.assertEqual(Store.of(*programs(("procedure", "p", (), statement))).programs, ("p",))
        self.assertIsNone(fault(Store(), ("procedure", "p", (), statement)))
        self.fails(BadThing, ("form", "p"), fault, Store(), ("procedure", "p", (), block(block(statement))))
        self.fails(BadThing, ("form", "p"), Store.of, *programs(("procedure", "p", (), block(block(statement)))))
        self.fails(BadThing, ("form", "p"), Store.of, *programs(("procedure", "p", (), nested(5000))))

    def test_two_thousand_parts(self):
        # A look has two parts.
        most = (2000 - parts(procedure("p"))) // 2
        self.assertEqual(Store.of(*programs(procedure("p", *[("look",)] * most))).programs, ("p",))
        self.fails(BadThing, ("form", "p"), Store.of, *programs(procedure("p", *[("look",)] * (most + 1))))


def parts(tree):
    return 1 + sum(map(parts, tree)) if isinstance(tree, tuple) else 1
