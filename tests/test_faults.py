"""Points 42, 43 and 55: the first fault of a program, as fault, stale and Stale tell it."""

from deedstore.errors import Stale
from deedstore.machines import run
from deedstore.programs import fault, stale
from deedstore.steppers import Stepper
from tests.build import (
    NULL, TRUE, StoreTest, begun, block, col, column, do, equal, function, handler, plus,
    procedure, programs, put, raise_, set_, sets, table, tables, trigger, unchanged, value, var,
    variable, view,
)

T = table("t", "a", column("b", "text"))
U = table("u", "x", "y")
ROW, CURSOR = ("row", "t"), ("cursor", "t")
VARIABLES = (
    variable("n"), variable("w", "text"), variable("f", "truth"), variable("r", ROW), variable("c", CURSOR),
    variable("ru", ("row", "u")), variable("cu", ("cursor", "u")), variable("rv", ("row", "v")),
)


def both(*kinds):
    """Params of these kinds with the words pa, pb and so on."""
    return tuple(("p" + chr(ord("a") + k), kind, "in") for k, kind in enumerate(kinds))


class FaultTest(StoreTest):
    def store(self, *more):
        return begun(
            ("sequence", ("s", 1, 1)), *tables(T, U), ("view", view("v", "t", (("z", "a"),))),
            *programs(
                procedure("proc"), procedure("outs", params=(("x", "int", "out"), ("y", "text", "both"))),
                procedure("rows", params=both(ROW, CURSOR)), procedure("three", params=both("int", "text", "truth")),
                function("one", ("return", value(1)), params=both("int")),
                function("txt", ("return", NULL), kind="text"),
                function("frow", ("return", value(1)), params=both(ROW, CURSOR, "int")),
                trigger("trig", "u", "after", "take"), *more))

    def is_stale(self, place, first, program, *given):
        """The program, which is called x, has this first fault."""
        # It need not be there, and what is there of it is not what is looked at.
        for store in (self.store(), self.store(procedure("x"))):
            self.assertEqual(fault(store, program), (place, first))
        store = self.store(program)
        self.assertEqual((fault(store, program), stale(store)), ((place, first), [("x", place, first)]))
        before = unchanged(store)
        if program[0] == "procedure":
            self.fails(Stale, ("x", place, first), run, store, "x", *given)
            self.fails(Stale, ("x", place, first), Stepper(store, "x", *given).outcome)
        elif program[0] == "function":
            call = ("call", "x", tuple(NULL for _ in program[2]))
            self.fails(Stale, ("x", place, first), store.put, "t", (("b" if program[3] == "text" else "a", call),))
        else:
            self.fails(Stale, ("x", place, first), store.put, "t", ())
        self.assertEqual(unchanged(store)[:4], before[:4])

    def has_fault(self, first, *statements):
        """The last of these statements has this fault, within a block that has VARIABLES."""
        place = (0, len(statements) - 1)
        self.is_stale(place, first, procedure("x", *statements, variables=VARIABLES))
        inner = block(*statements, variables=VARIABLES)
        self.is_stale((0, 0, 0, 0, *place), first, procedure("x", ("if", ((TRUE, (inner,)),), ())))

    def has_none(self, *statements):
        program = procedure("x", *statements, ("return", None), variables=VARIABLES)
        store = self.store(program)
        self.assertIsNone(fault(store, program))
        self.assertEqual(stale(store), [])
        store.make(*programs(procedure("quiet", ("if", (), ()), do("x"))))
        try:
            run(store, "x")
        except Stale as error:
            self.fail(vars(error))
        except Exception as error:
            self.assertEqual(type(error).__name__, "Raised")


class NameTest(FaultTest):
    def test_variables(self):
        for statement in (
            set_("zz", 1), set_("zz", "x"), ("get", "zz", "none", TRUE), ("open", "zz", "none", TRUE),
            ("each", None, "zz", "none", TRUE, ()), ("fetch", "zz", "yy", "xx"), ("fetch", "c", "zz", "xx"),
            ("fetch", "c", "r", "zz"), ("changeat", "zz", (("q", NULL),)), ("takeat", "zz"), ("close", "zz"),
            ("put", "t", (), "zz"), ("fill", "t", (), "t", TRUE, "zz"), ("change", "t", (), TRUE, "zz"),
            ("take", "t", TRUE, "zz"), set_("n", var("zz")), set_("n", plus(var("n"), var("zz"))),
            set_("n", ("field", "zz", "a")), set_("n", ("field", "zz", "qq")), raise_("e", 1, var("zz")),
            ("doby", value("p"), (value(1), var("zz"))), do("proc", var("zz")), set_("w", var("zz")),
        ):
            self.has_fault(("name", "zz"), statement)

    def test_fields_of_what_is_no_row(self):
        self.has_fault(("name", "n"), set_("n", ("field", "n", "a")))
        self.has_fault(("name", "c"), set_("n", ("field", "c", "a")))
        self.has_fault(("name", "zz"), set_("n", ("field", "r", "zz")))
        self.has_fault(("name", "a"), set_("n", ("field", "rv", "a")))
        self.has_none(set_("n", ("field", "rv", "z")), set_("w", ("field", "r", "b")))

    def test_tables(self):
        for statement in (
            ("put", "zz", (("q", var("q")),), "q"), ("fill", "zz", (("q", NULL),), "zy", TRUE, None),
            ("change", "zz", (("q", NULL),), var("q"), None), ("take", "zz", var("q"), None),
            ("get", "r", "zz", var("q")), ("open", "c", "zz", var("q")), ("each", None, "r", "zz", var("q"), ()),
            set_("n", ("count", "zz", var("q"))), set_("n", ("sum", "zz", var("q"), TRUE)),
        ):
            self.has_fault(("name", "zz"), statement)
        self.has_fault(("name", "s"), ("put", "s", (), None))
        self.has_fault(("name", "proc"), ("put", "proc", (), None))

    def test_columns(self):
        for statement in (
            ("put", "t", (("q", var("zz")),), None), ("put", "v", (("q", NULL),), None),
            ("change", "t", (("a", value(1)), ("q", NULL)), TRUE, None), ("put", "t", (("a", col("q")),), None),
            ("change", "t", (("a", col("q")),), TRUE, None), ("change", "t", (), equal(col("q"), 1), None),
            ("take", "t", col("q"), None), ("get", "r", "t", col("q")), ("open", "c", "t", col("q")),
            ("each", None, "r", "t", col("q"), ()), ("changeat", "c", (("q", NULL),)),
            ("changeat", "c", (("a", col("q")),)), set_("n", col("q")), ("if", ((col("q"), ()),), ()),
            ("while", None, col("q"), ()), raise_("e", col("q")), set_("n", ("count", "t", col("q"))),
            ("fill", "t", (("a", col("q")),), "u", TRUE, None), ("fill", "t", (), "u", col("q"), None),
        ):
            self.has_fault(("name", "q"), statement)
        self.has_fault(("name", "a"), ("put", "t", (("a", col("a")),), None))
        self.has_fault(("name", "a"), ("put", "t", (("a", NULL), ("b", NULL), ("a", value("x"))), None))
        self.has_fault(("name", "a"), ("put", "v", (("a", NULL),), None))
        self.has_fault(("name", "a"), ("take", "v", equal(col("a"), 1), None))
        self.has_fault(("name", "a"), ("fill", "t", (("a", col("a")),), "u", TRUE, None))

    def test_the_sets_of_fill_go_ahead_of_its_source(self):
        self.has_fault(("name", "x"), ("fill", "t", (("a", col("x")),), "zz", TRUE, None))
        self.has_fault(("kind", "fill"), ("fill", "t", (("a", value("w")),), "zz", TRUE, None))
        self.has_fault(("name", "zz"), ("fill", "t", (("a", NULL),), "zz", col("q"), None))
        self.has_fault(("name", "zy"), ("fill", "zy", (("a", col("x")),), "zz", TRUE, None))

    def test_functions_procedures_and_sequences(self):
        for word in ("zz", "proc", "trig", "t", "s", "n"):
            self.has_fault(("name", word), set_("n", ("call", word, (var("q"),))))
        for word in ("zz", "one", "trig", "t", "s", "n"):
            self.has_fault(("name", word), ("do", word, (var("q"),)))
        for word in ("zz", "proc", "t", "v"):
            self.has_fault(("name", word), set_("n", ("number", word)))
        # What drop, doby and again name is not asked.
        self.has_none(("doby", value("zz"), ()))
        self.has_none(("drop", "zz"))

    def test_params_and_variables(self):
        for kind in ("row", "cursor"):
            self.is_stale((), ("name", "zz"), procedure("x", variables=(variable("q", (kind, "zz")),)))
            self.is_stale((0, 0), ("name", "zz"), procedure("x", block(put("zy"), variables=(
                variable("q", (kind, "zz")),))))
        self.is_stale((), ("name", "q"), procedure("x", variables=(variable("q", ("row", "t"), None), variable(
            "n", "int", ("field", "q", "q")), variable("m", ("row", "zz")))))

    def test_a_column_of_a_row_whose_table_is_not_there(self):
        self.is_stale((), ("name", "x"), procedure("x", variables=(
            variable("n", "int", ("field", "q", "x")), variable("q", ("row", "zz")))))

    def test_a_cursor_param_of_a_function(self):
        program = function("x", ("return", value(1)), params=(("a", ("cursor", "zz"), "in"),))
        other = procedure("y", set_("n", ("call", "x", (var("c"),))), variables=VARIABLES)
        store = self.store(program, other)
        # The call does not fit, as its cursor is one of another table.
        self.fails(Stale, ("y", (0, 0), ("kind", "set")), run, store, "y")
        self.assertEqual(fault(store, other), ((0, 0), ("kind", "set")))
        self.assertEqual(stale(store), [("x", (), ("name", "zz")), ("y", (0, 0), ("kind", "set"))])


class KindTest(FaultTest):
    def test_expressions(self):
        for head, statement in (
            ("set", set_("n", "x")), ("set", set_("n", True)), ("set", set_("w", 1)), ("set", set_("f", 0)),
            ("set", set_("n", plus(1, "x"))), ("set", set_("n", var("w"))), ("set", set_("n", ("not", value(1)))),
            ("if", ("if", ((value(1), ()),), ())), ("if", ("if", ((TRUE, ()), (value("x"), ())), ())),
            ("while", ("while", None, value(1), ())), ("each", ("each", None, "r", "t", value(1), ())),
            ("put", put("t", a="x")), ("put", put("t", b=1)), ("put", ("put", "t", (), "w")),
            ("fill", ("fill", "t", sets(b=col("x")), "u", TRUE, None)), ("fill", ("fill", "t", (), "u", col("x"), None)),
            ("fill", ("fill", "t", (), "u", TRUE, "f")), ("change", ("change", "t", sets(a=col("b")), TRUE, None)),
            ("change", ("change", "t", (), col("a"), None)), ("change", ("change", "t", (), TRUE, "r")),
            ("take", ("take", "t", value(1), None)), ("take", ("take", "t", TRUE, "c")), ("get", ("get", "r", "t", col("b"))),
            ("open", ("open", "c", "t", col("a"))), ("changeat", ("changeat", "c", sets(a="x"))),
            ("doby", ("doby", value(1), ())), ("fetch", ("fetch", "c", "r", "n")), ("set", set_("n", ("call", "txt", ()))),
            ("set", set_("n", ("least", "t", col("b"), TRUE))), ("set", set_("n", ("sum", "t", col("b"), TRUE))),
            ("set", set_("n", ("most", "t", var("f"), TRUE))), ("set", set_("n", ("count", "t", value(1)))),
        ):
            self.has_fault(("kind", head), statement)

    def test_null_fits(self):
        self.has_none(set_("n", NULL), set_("w", ("case", TRUE, NULL, NULL)), set_("f", ("least", "t", NULL, TRUE)))
        self.has_none(("if", ((NULL, ()),), ()), ("doby", NULL, ()), raise_("e", NULL))

    def test_rows_and_cursors_that_are_no_args(self):
        for e in (var("r"), var("c")):
            self.has_fault(("kind", "set"), set_("n", e))
            self.has_fault(("kind", "set"), set_("n", plus(e, 1)))
            self.has_fault(("kind", "set"), set_("f", ("null", e)))
            self.has_fault(("kind", "set"), set_("f", equal(e, e)))
            self.has_fault(("kind", "set"), set_("n", ("case", TRUE, e, NULL)))
            self.has_fault(("kind", "raise"), raise_("e", e))
            self.has_fault(("kind", "doby"), ("doby", e, ()))
            self.has_fault(("kind", "put"), put("t", a=e))
            self.has_fault(("kind", "if"), ("if", ((e, ()),), ()))
            self.has_fault(("name", "zz"), set_("f", equal(e, var("zz"))))
        self.has_none(("doby", value("zz"), (var("r"), var("c"))))

    def test_set_of_a_cursor_or_row(self):
        for word in ("r", "c"):
            self.has_fault(("kind", "set"), set_(word, var("zz")))

    def test_what_needs_a_row_or_a_cursor(self):
        for word in ("n", "c"):
            self.has_fault(("kind", "get"), ("get", word, "zz", TRUE))
            self.has_fault(("kind", "each"), ("each", None, word, "zz", TRUE, ()))
            self.has_fault(("kind", "fetch"), ("fetch", "c", word, "zz"))
        for word in ("n", "r"):
            self.has_fault(("kind", "open"), ("open", word, "zz", TRUE))
            self.has_fault(("kind", "fetch"), ("fetch", word, "zz", "zz"))
            self.has_fault(("kind", "changeat"), ("changeat", word, (("q", NULL),)))
            self.has_fault(("kind", "takeat"), ("takeat", word))
            self.has_fault(("kind", "close"), ("close", word))

    def test_those_of_another_table(self):
        self.has_fault(("kind", "get"), ("get", "ru", "t", var("zz")))
        self.has_fault(("kind", "get"), ("get", "rv", "t", TRUE))
        self.has_fault(("kind", "each"), ("each", None, "r", "u", var("zz"), ()))
        self.has_fault(("kind", "open"), ("open", "cu", "t", var("zz")))
        self.has_fault(("kind", "fetch"), ("fetch", "cu", "r", "zz"))
        self.has_fault(("kind", "fetch"), ("fetch", "c", "rv", "zz"))

    def test_args_of_do(self):
        for args in (
            (1,), (value(1), value("x")), (value(1), value("x"), TRUE, NULL), ("x", "x", True), (1, 1, True), (1, "x", 1),
        ):
            self.has_fault(("kind", "do"), do("three", *args))
        self.has_none(do("three", 1, "x", True), do("three", NULL, NULL, var("f")))
        # One after the other: each wholly, then their number.
        self.has_fault(("kind", "do"), do("three", "x", var("zz"), True))
        self.has_fault(("name", "zz"), do("three", 1, var("zz"), 5))
        self.has_fault(("name", "zz"), do("three", 1, "x", True, var("zz")))
        self.has_fault(("kind", "do"), do("three", 1, "x", True, plus(1, "x"), var("zz")))
        self.has_fault(("name", "zz"), do("three", var("zz")))

    def test_args_for_out_and_both(self):
        self.has_none(do("outs", var("n"), var("w")))
        for args in ((1, var("w")), (var("n"), "x"), (var("w"), var("w")), (var("n"), var("n")), (NULL, var("w")),
                     (var("n"), NULL), (plus(var("n"), 0), var("w")), (var("c"), var("w")), (var("n"),)):
            self.has_fault(("kind", "do"), do("outs", *args))
        self.has_fault(("name", "zz"), do("outs", plus(var("zz"), 1), var("w")))

    def test_args_for_rows_and_cursors(self):
        self.has_none(do("rows", var("r"), var("c")))
        for args in ((NULL, var("c")), (var("r"), NULL), (var("c"), var("r")), (var("ru"), var("c")),
                     (var("r"), var("cu")), (var("rv"), var("c")), (var("n"), var("c")),
                     (("case", TRUE, NULL, NULL), var("c"))):
            self.has_fault(("kind", "do"), do("rows", *args))

    def test_args_of_call(self):
        def call(*args):
            return set_("n", ("call", "frow", args))

        self.has_none(call(var("r"), var("c"), NULL))
        self.has_none(call(var("r"), var("c"), var("n")))
        for args in ((var("r"), var("c")), (var("r"), var("c"), NULL, NULL), (NULL, var("c"), NULL),
                     (var("ru"), var("c"), NULL), (var("r"), var("c"), var("w")), (var("r"), var("c"), var("r"))):
            self.has_fault(("kind", "set"), call(*args))
        # As with kind_of: all names first.
        self.has_fault(("name", "zz"), call(NULL, NULL, var("zz")))
        self.has_fault(("name", "zz"), call(var("r"), var("c"), NULL, var("zz")))

    def test_variables(self):
        self.is_stale((), ("kind", "block"), procedure("x", variables=(variable("a", "int", "x"),)))
        self.is_stale((), ("kind", "block"), procedure("x", variables=(variable("a", "truth", plus(1, 1)),)))

    def test_trigger_rows(self):
        for when in ("before", "after"):
            for word in ("old", "new"):
                for statement, head in ((("get", word, "t", TRUE), "get"), (("each", None, word, "t", TRUE, ()), "each")):
                    self.is_stale((0, 0), ("kind", head), trigger("x", "t", when, "put", statement))
                fetch = ("fetch", "c", word, "zz")
                self.is_stale((0, 0), ("kind", "fetch"), trigger("x", "t", when, "put", fetch, variables=VARIABLES))
                self.is_stale((0, 0), ("kind", "set"), trigger("x", "t", when, "put", set_(word, 1)))
        hidden = block(("get", "new", "t", var("zz")), variables=(variable("new", ROW),))
        self.is_stale((0, 0, 0, 0), ("name", "zz"), trigger("x", "t", "after", "put", hidden))


class OrderTest(FaultTest):
    def test_the_first_by_places(self):
        wrong = set_("zz", 1)
        inner = block(wrong, handlers=(handler("", set_("yy", 1)),), last=(set_("xx", 1),))
        self.is_stale((0, 1, 0, 0), ("name", "zz"), procedure("x", ("look",), inner, set_("ww", 1)))
        self.is_stale((0, 1), ("name", "ww"), procedure("x", ("look",), set_("ww", 1), inner))
        inner = block(("look",), handlers=(handler("a"), handler("", set_("yy", 1))), last=(set_("xx", 1),))
        self.is_stale((0, 0, 2, 0), ("name", "yy"), procedure("x", inner))
        inner = block(("look",), handlers=(handler("a"), handler("")), last=(set_("xx", 1),))
        self.is_stale((0, 0, 3, 0), ("name", "xx"), procedure("x", inner))

    def test_a_statement_before_those_in_it(self):
        wrong = set_("zz", 1)
        self.is_stale((0, 0), ("name", "yy"), procedure("x", ("if", ((TRUE, (wrong,)), (var("yy"), ())), ())))
        self.is_stale((0, 0, 1, 0), ("name", "zz"), procedure("x", ("if", ((TRUE, ()), (TRUE, (wrong,))), ())))
        self.is_stale((0, 0, 2, 0), ("name", "zz"), procedure("x", ("if", ((TRUE, ()), (TRUE, ())), (wrong,))))
        self.is_stale((0, 0, 0, 0), ("name", "zz"), procedure("x", ("while", None, TRUE, (wrong,))))
        self.is_stale((), ("kind", "block"), procedure("x", wrong, variables=(variable("a", "int", "x"),)))

    def test_within_an_expression(self):
        self.has_fault(("name", "zz"), set_("n", plus(var("w"), var("zz"))))
        self.has_fault(("kind", "set"), set_("n", plus(plus(1, "x"), var("zz"))))
        self.has_fault(("name", "zz"), set_("n", ("count", "zz", var("yy"))))

    def test_variable_of_set_goes_ahead_of_its_value(self):
        self.has_fault(("name", "yy"), set_("yy", var("zz")))

    def test_sets_then_condition_then_into(self):
        self.has_fault(("kind", "change"), ("change", "t", sets(a="x"), var("zz"), "yy"))
        self.has_fault(("name", "zz"), ("change", "t", sets(a=1), var("zz"), "yy"))
        self.has_fault(("name", "yy"), ("change", "t", sets(a=1), TRUE, "yy"))
        self.has_fault(("kind", "put"), ("put", "t", (("a", value("x")), ("q", NULL)), None))

    def test_params_ahead_of_the_block(self):
        self.is_stale((), ("twice", "a"), procedure("x", set_("zz", 1), params=(
            ("a", "int", "in"), ("a", "int", "in"))), 1, 1)
        self.is_stale((), ("twice", "a"), procedure(
            "x", variables=(variable("a", "int", "x"),), params=(("a", "int", "in"), ("a", "int", "in"))), 1, 1)


class LabelTest(FaultTest):
    def test_labels_that_are_not_around(self):
        for head in ("leave", "next"):
            self.has_fault(("label", "l"), (head, "l"))
            self.has_fault(("label", "l"), block(label="l"), (head, "l"))
            self.has_fault(("label", "l"), ("while", "l", value(False), ()), (head, "l"))

    def test_next_is_of_loops(self):
        self.is_stale((0, 0, 0, 0), ("label", "l"), procedure("x", block(("next", "l"), label="l")))
        self.has_none(block(("leave", "l"), label="l"))
        self.has_none(("while", "l", TRUE, (("leave", "l"),)), ("each", "l", "r", "t", TRUE, (("next", "l"),)))

    def test_around_statements_and_handlers_but_not_last(self):
        self.has_none(block(raise_("e"), label="l", handlers=(handler("", ("leave", "l")),)))
        self.is_stale((0, 0, 1, 0), ("label", "l"), procedure("x", block(label="l", last=(("leave", "l"),))))
        self.has_none(("while", "l", TRUE, (block(last=(("leave", "l"),)),)))

    def test_twice(self):
        inner = block(label="l")
        self.is_stale((0, 0, 0, 0), ("twice", "l"), procedure("x", block(inner, label="l")))
        self.is_stale((0, 0, 0, 0), ("twice", "l"), procedure("x", ("while", "l", TRUE, (inner,))))
        self.is_stale((0, 0, 1, 0), ("twice", "l"), procedure("x", block(label="l", handlers=(handler("", inner),))))
        self.is_stale((0, 0, 0, 0), ("twice", "l"), procedure("x", ("while", "l", TRUE, (("while", "l", var("q"), ()),))))
        self.is_stale((0, 0, 0, 0), ("twice", "l"), procedure("x", ("while", "l", TRUE, (
            ("each", "l", "q", "q", var("q"), ()),))))
        self.has_none(block(label="l", last=(inner,)), inner, block(inner, inner))
        self.is_stale((0, 0, 0, 0), ("twice", "l"), procedure("x", block(block(
            label="l", variables=(variable("a", "int", "x"),)), label="l")))


class TwiceTest(FaultTest):
    def test_variables_and_params(self):
        self.is_stale((), ("twice", "a"), procedure("x", variables=(variable("a"), variable("b"), variable("a", "text"))))
        self.is_stale((), ("kind", "block"), procedure("x", variables=(variable("a", "int", "x"), variable("a"))))
        # It is looked at in its second place; where it is named, the last one counts.
        self.is_stale((), ("kind", "block"), procedure("x", variables=(
            variable("b", "int", var("a")), variable("a"), variable("a", "text"))))
        self.is_stale((), ("twice", "a"), procedure("x", variables=(
            variable("b", "text", var("a")), variable("a"), variable("a", "text", 5))))
        self.is_stale((), ("twice", "a"), function("x", params=(("a", "int", "in"), ("a", "int", "in"))))

    def test_inner_ones_hide_outer_ones(self):
        self.has_none(block(set_("n", "x"), variables=(variable("n", "text"),)))
        self.has_fault(("kind", "set"), block(variables=(variable("n", "text"),)), set_("n", "x"))
        self.is_stale((0, 0), ("kind", "set"), procedure(
            "x", set_("a", 1), params=(("a", "int", "in"),), variables=(variable("a", "text"),)), 1)

    def test_hidden_in_their_own_expressions(self):
        self.is_stale((0, 0), ("kind", "block"), procedure("x", block(variables=(
            variable("b", "int", var("a")), variable("a", "text"))), variables=(variable("a", "int"),)))


class QuietTest(FaultTest):
    STATEMENTS = (
        ("put", "zz", (), None), ("fill", "zz", (), "zz", TRUE, None), ("change", "zz", (), TRUE, None),
        ("take", "zz", TRUE, None), ("changeat", "zz", ()), ("takeat", "zz"), ("mark", "m"), ("back", "m"),
        ("free", "m"), ("do", "zz", ()), ("doby", var("zz"), ()), ("make", procedure("q")), ("drop", "q"), ("look",),
    )

    def test_functions_and_before_triggers(self):
        for statement in self.STATEMENTS:
            head = statement[0]
            self.is_stale((0, 0), ("quiet", head), function("x", statement))
            self.is_stale((0, 0), ("quiet", head), trigger("x", "t", "before", "put", statement))
            self.is_stale((1, 0), ("quiet", head), function("x", handlers=(handler("", statement),)))

    def test_numbers(self):
        for e in (("number", "zz"), ("number", "s"), plus(1, ("number", "s"))):
            self.is_stale((0, 0), ("quiet", "number"), function("x", ("return", e)))
            self.is_stale((0, 0), ("quiet", "number"), trigger("x", "t", "before", "put", ("new", "a", e)))
        self.is_stale((0, 0), ("name", "zz"), function("x", ("return", plus(var("zz"), ("number", "s")))))
        self.is_stale((0, 0), ("quiet", "number"), function("x", ("return", ("sum", "t", ("number", "s"), TRUE))))

    def test_what_they_may(self):
        may = (set_("n", ("count", "t", TRUE)), ("open", "c", "t", TRUE), ("fetch", "c", "r", "f"), ("close", "c"),
               ("each", None, "r", "t", TRUE, ()), block(raise_("e"), handlers=(handler("e"),)))
        store = self.store(function("x", *may, ("return", value(1)), variables=VARIABLES),
                           trigger("y", "t", "before", "put", *may, variables=VARIABLES))
        self.assertEqual(store.put("t", sets(a=("call", "x", ()))), 1)

    def test_after_triggers_are_not_quiet(self):
        store = self.store(trigger("x", "t", "after", "put", put("u"), ("look",), ("mark", "m"), do("proc")))
        self.assertEqual(store.put("t", ()), 1)


class HandlerTest(FaultTest):
    def test_outside_of_handlers(self):
        self.has_fault(("handler", "again"), ("again",))
        self.has_fault(("handler", "word"), set_("w", ("word",)))
        self.has_fault(("handler", "told"), set_("n", ("told", 0, "int")))
        guard = block(raise_("e"), handlers=(handler("", ("again",)),), last=(("again",),))
        self.is_stale((0, 0, 2, 0), ("handler", "again"), procedure("x", guard))
        guard = block(("again",), handlers=(handler(""),))
        self.is_stale((0, 0, 0, 0), ("handler", "again"), procedure("x", guard))

    def test_within_what_goes_through_rows(self):
        told = ("count", "t", equal(col("a"), ("told", 0, "int")))
        self.has_fault(("handler", "told"), set_("n", told))
        self.has_none(block(raise_("e", 5), handlers=(handler("", set_("n", told)),)))

    def test_within_handlers(self):
        deep = block(("if", ((equal(("word",), "e"), ()),), ()), variables=(variable("q", "text", ("word",)),),
                     last=(set_("n", ("told", 0, "int")),))
        self.has_none(block(raise_("e"), handlers=(handler("", deep, ("again",)),)))
        self.is_stale((1, 0), ("kind", "set"), procedure(
            "x", handlers=(handler("", set_("n", ("told", 0, "text"))),), variables=VARIABLES))
        self.is_stale((1, 0), ("kind", "set"), procedure(
            "x", handlers=(handler("", set_("n", ("word",))),), variables=VARIABLES))


class ReturnTest(FaultTest):
    def test_procedures_and_triggers(self):
        self.has_fault(("return", "return"), ("return", value(1)))
        self.has_fault(("return", "return"), ("return", var("zz")))
        self.is_stale((0, 0), ("return", "return"), trigger("x", "t", "after", "put", ("return", NULL)))
        self.has_none(("return", None))

    def test_functions(self):
        self.is_stale((0, 0), ("return", "return"), function("x", ("return", None)))
        self.is_stale((0, 0), ("kind", "return"), function("x", ("return", value("x"))))
        self.is_stale((0, 0), ("name", "zz"), function("x", ("return", var("zz"))))
        self.is_stale((0, 0), ("kind", "return"), function("x", ("return", value(1)), kind="text"))


class TriggerTest(FaultTest):
    def test_new_and_skip_outside_of_before_triggers(self):
        self.has_fault(("trigger", "new"), ("new", "zz", var("zz")))
        self.has_fault(("trigger", "skip"), ("skip",))
        self.is_stale((0, 0), ("trigger", "new"), function("x", ("new", "a", NULL)))
        self.is_stale((0, 0), ("trigger", "skip"), function("x", ("skip",)))
        for statement in (("new", "a", NULL), ("skip",)):
            self.is_stale((0, 0), ("trigger", statement[0]), trigger("x", "t", "after", "put", statement))

    def test_new_of_take(self):
        store = self.store(trigger("x", "t", "before", "take", ("new", "a", NULL)), trigger("y", "u", "before", "take", ("skip",)))
        store.put("t", ())
        store.put("u", ())
        self.fails(Stale, ("x", (0, 0), ("trigger", "new")), store.take, "t", TRUE)
        self.assertEqual(store.take("u", TRUE), 0)

    def test_columns_of_new(self):
        self.is_stale((0, 0), ("trigger", "zz"), trigger("x", "t", "before", "put", ("new", "zz", var("zz"))))
        self.is_stale((0, 0), ("name", "zz"), trigger("x", "t", "before", "put", ("new", "a", var("zz"))))
        self.is_stale((0, 0), ("kind", "new"), trigger("x", "t", "before", "put", ("new", "a", value("x"))))
        self.is_stale((0, 0), ("name", "zz"), trigger("x", "t", "before", "put", ("new", "a", ("field", "old", "zz"))))
        self.is_stale((0, 0), ("kind", "new"), trigger("x", "t", "before", "put", ("new", "a", ("field", "new", "b"))))
