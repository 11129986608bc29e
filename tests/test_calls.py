"""Points 44, 45 and 54: calls, their args, results, most and depth, and procedures that call."""

from deedstore.errors import BadArgs, Busy, NoTransaction, Raised, Unknown
from deedstore.machines import Outcome, run
from deedstore.stores import Store
from tests.build import (
    FALSE, NULL, TRUE, StoreTest, begun, block, col, do, equal, function, handler, op, plus, procedure,
    programs, put, raise_, set_, sets, table, tables, trigger, unchanged, value, var, variable,
)

T = table("t", "a")


class OutcomeTest(StoreTest):
    def test_results_history_and_trace(self):
        params = (("a", "int", "in"), ("b", "text", "both"), ("c", "truth", "out"), ("d", "int", "out"))
        store = begun(("table", T), *programs(procedure(
            "p", set_("b", op("join", var("b"), "!")), set_("d", plus(var("a"), 1)), put("t", a=var("a")),
            params=params)))
        store.mark()
        outcome = run(store, "p", 5, "x")
        self.assertIs(type(outcome), Outcome)
        self.assertEqual(outcome.results, ("x!", None, 6))
        self.assertEqual(outcome.history, (("mark", 1), ("put", "t", 0, (5,)), ("free", 1)))
        self.assertEqual(store.journal, (("mark", 0),) + outcome.history)
        self.assertEqual(outcome.trace, (
            ("enter", "p"), ("deed", ("mark", 1)), ("at", ()), ("at", (0, 0)), ("at", (0, 1)), ("at", (0, 2)),
            ("deed", ("put", "t", 0, (5,))), ("leave", "end"), ("deed", ("free", 1))))
        self.assertEqual([type(part) for part in (outcome.results, outcome.history, outcome.trace)], [tuple] * 3)
        self.assertEqual(store.mark(), 1)

    def test_by_name(self):
        store = begun(*programs(procedure("p", params=(("a", "int", "both"),))))
        self.assertEqual(run(store, "p", 1, most=0).results, (1,))
        self.assertEqual(run(store, "p", None).results, (None,))
        store = begun(*programs(procedure("p")))
        self.assertEqual(run(procedure="p", store=store).results, ())

    def test_nothing(self):
        store = begun(*programs(procedure("p")))
        outcome = run(store, "p", most=0)
        self.assertEqual((outcome.results, outcome.history), ((), (("mark", 0), ("free", 0))))


class ErrorTest(StoreTest):
    def setUp(self):
        self.store = begun(("table", T), ("sequence", ("s", 1, 1)), *programs(
            procedure("p"), function("f"), trigger("g", "t", "after", "put"),
            procedure("q", set_("zz", 1), params=(
                ("a", "int", "in"), ("b", "text", "out"), ("c", "truth", "both"), ("d", "text", "in"))),
            procedure("r", params=(("a", "int", "in"), ("c", ("cursor", "t"), "in"))),
            procedure("v", params=(("c", ("row", "t"), "in"), ("a", "int", "in")))))
        self.before = unchanged(self.store)

    def tearDown(self):
        self.assertEqual(unchanged(self.store), self.before)

    def test_busy_and_no_transaction(self):
        store = Store()
        self.fails(NoTransaction, (), run, store, [], [], most=[])
        store.core.standing = True
        self.fails(Busy, (), run, store, [], [], most=[])

    def test_unknown(self):
        for x in ("zz", "f", "g", "t", "s", "", "P", None, 5, True, [], {}, (), ("p",)):
            self.fails(Unknown, (x,), run, self.store, x, [], most=[])

    def test_args_of_their_kinds(self):
        for args, word in (
            ((), "a"), (("x",), "a"), ((True,), "a"), (([],), "a"), ((10 ** 30 + 1,), "a"), (((),), "a"), (({},), "a"),
            ((1,), "c"), ((1, 1), "c"), ((1, "x", "x"), "c"), ((None, None), "d"), ((1, True), "d"), ((1, True, 5), "d"),
            ((1, True, "a" * 41), "d"), ((1, True, "\n"), "d"), ((1, True, "%"), "d"), ((1, True, ["a"]), "d"),
            ((1, True, "x", None), None), ((1, True, "x", 1, 2), None),
        ):
            self.fails(BadArgs, (word,), run, self.store, "q", *args)
            self.fails(BadArgs, (word,), run, self.store, "q", *args, most=[])

    def test_cursor_and_row_params(self):
        self.fails(BadArgs, ("a",), run, self.store, "r")
        self.fails(BadArgs, ("c",), run, self.store, "r", 1)
        self.fails(BadArgs, ("c",), run, self.store, "r", 1, None)
        for x in (None, (1,), 1):
            self.fails(BadArgs, ("c",), run, self.store, "v", x, 1)

    def test_most(self):
        for most in (-1, None, True, False, "5", [], {}, (), 10.0):
            self.fails(BadArgs, ("most",), run, self.store, "p", most=most)
            self.fails(BadArgs, ("most",), run, self.store, "q", 1, True, "x", most=most)
            self.fails(BadArgs, (None,), run, self.store, "p", 1, most=most)

    def test_too_many_of_none(self):
        for x in (None, 5, [], {}):
            self.fails(BadArgs, (None,), run, self.store, "p", x)


class ArgTest(StoreTest):
    def store_with(self, *given):
        return begun(("sequence", ("s", 1, 1)), ("table", T), *programs(*given))

    def test_in_out_and_both(self):
        inner = procedure(
            "inner", raise_and_keep(), params=(("i", "int", "in"), ("o", "int", "out"), ("b", "int", "both")))
        outer = procedure(
            "outer", set_("x", 10), set_("y", 20), do("inner", plus(var("x"), 1), var("x"), var("y")),
            params=(("x", "int", "out"), ("y", "int", "out")))
        self.assertEqual(run(self.store_with(inner, outer), "outer").results, (None, 31))

    def test_given_back_in_order_to_the_same_variable(self):
        inner = procedure("inner", set_("a", 1), set_("b", 2), params=(("a", "int", "out"), ("b", "int", "out")))
        outer = procedure("outer", do("inner", var("x"), var("x")), params=(("x", "int", "out"),))
        self.assertEqual(run(self.store_with(inner, outer), "outer").results, (2,))

    def test_given_back_only_at_the_end(self):
        # The inner procedure sees no change of the variable that it was passed.
        inner = procedure("inner", set_("a", 1), block(do("look", var("a")), set_("b", var("a"))), params=(
            ("a", "int", "both"), ("b", "int", "both")))
        look = procedure("look", set_("a", plus(var("a"), 5)), ("return", None), params=(("a", "int", "both"),))
        outer = procedure("outer", set_("x", 7), do("inner", var("x"), var("y")), params=(
            ("x", "int", "out"), ("y", "int", "out")))
        self.assertEqual(run(self.store_with(inner, look, outer), "outer").results, (6, 6))

    def test_not_given_back_behind_a_signal(self):
        inner = procedure("inner", set_("a", 1), set_("b", 2), raise_("e"), params=(
            ("a", "int", "out"), ("b", "int", "both")))
        outer = procedure(
            "outer", set_("x", 10), set_("y", 20), do("inner", var("x"), var("y")),
            params=(("x", "int", "out"), ("y", "int", "out")), handlers=(handler("e"),))
        self.assertEqual(run(self.store_with(inner, outer), "outer").results, (10, 20))

    def test_from_left_to_right(self):
        three = (("a", "int", "in"), ("b", "int", "in"), ("c", "int", "in"))
        inner = procedure("inner", put("t", a=var("a")), put("t", a=var("b")), put("t", a=var("c")), params=three)
        number = ("number", "s")
        store = self.store_with(inner, procedure("outer", do("inner", number, number, number)), procedure(
            "by", ("doby", ("case", equal(number, 4), value("inner"), NULL), (number, number, number))))
        run(store, "outer")
        run(store, "by")
        self.has_rows(store, "t", (1,), (2,), (3,), (5,), (6,), (7,))

    def test_rows_and_cursors(self):
        params = (("r", ("row", "t"), "in"), ("c", ("cursor", "t"), "in"), ("n", "int", "out"))
        inner = procedure(
            "inner", ("get", "r", "t", equal(col("a"), 2)), set_("n", ("field", "r", "a")), ("fetch", "c", "r", "f"),
            params=params, variables=(variable("f", "truth"),))
        outer = procedure(
            "outer", ("open", "c", "t", TRUE), ("get", "r", "t", equal(col("a"), 1)), do("inner", var("r"), var("c"), var("n")),
            set_("m", ("field", "r", "a")), ("fetch", "c", "r", "f"), set_("k", ("field", "r", "a")),
            params=tuple((word, "int", "out") for word in "nmk"),
            variables=(variable("r", ("row", "t")), variable("c", ("cursor", "t")), variable("f", "truth")))
        store = self.store_with(inner, outer)
        for a in (1, 2):
            store.put("t", sets(a=a))
        # The row was passed as it was; the cursor is the same one.
        self.assertEqual(run(store, "outer").results, (2, 1, 2))


def raise_and_keep():
    return set_("b", plus(var("b"), var("i")))


class CallTest(StoreTest):
    """Functions that are called wherever an expression stands."""

    def outcome(self, is_called, make):
        """What a call of p does, with the parts that make wraps as calls or as they are."""
        def wrapped(e, kind="int"):
            e = e if isinstance(e, tuple) else value(e)
            return ("call", {"int": "same", "text": "sametext", "truth": "sametrue"}[kind], (e,)) if is_called else e

        def same(word, kind):
            return function(word, ("if", ((TRUE, (("return", var("x")),)),), ()), kind=kind, params=(("x", kind, "in"),))

        words = tuple((word, "int", "out") for word in "nm")
        variables = (variable("r", ("row", "t")), variable("c", ("cursor", "t")), variable("f", "truth"), variable("i", "int", 0))
        store = begun(*tables(table("t", "a", "b"), table("u", "x", "y")), *programs(
            same("same", "int"), same("sametext", "text"), same("sametrue", "truth"),
            procedure("q", set_("b", plus(var("a"), var("b"))), params=(("a", "int", "in"), ("b", "int", "both"))),
            procedure("p", *make(wrapped), params=words, variables=variables)))
        for a in (1, 2, 3):
            store.put("t", sets(a=a, b=10 * a))
        try:
            found = run(store, "p").results
        except Raised as e:
            found = (e.word, e.details, e.place)
        return found, [list(store.rows(word)) for word in "tu"]

    def does(self, wanted, make):
        """The call ends so, whether functions are called or not; what the rows are then."""
        for is_called in (False, True):
            found, rows = self.outcome(is_called, make)
            self.assertEqual(found, wanted)
        self.assertEqual(rows, self.outcome(False, make)[1])
        return [[row for _, row in part] for part in rows]

    def test_conditions_of_if(self):
        def make(w):
            return (
                ("if", ((w(FALSE, "truth"), (set_("n", 1),)), (w(NULL, "truth"), (set_("n", 2),)),
                        (w(TRUE, "truth"), (set_("n", 3),))), (set_("n", 4),)),
                ("if", ((w(FALSE, "truth"), ()), (equal(w(2), w(3)), ())), (set_("m", 5),)))

        self.does((3, 5), make)

    def test_conditions_of_loops(self):
        def make(w):
            add = set_("i", plus(w(var("i")), w(1)))
            return (
                ("while", None, w(op("<", w(var("i")), 3), "truth"), (add, set_("n", var("i")))), set_("m", 0),
                ("each", None, "r", "t", op("<", w(1), w(col("a"))), (set_("m", plus(var("m"), ("field", "r", "b"))),)))

        self.does((3, 50), make)

    def test_get_and_open(self):
        def make(w):
            return (
                ("get", "r", "t", equal(w(col("a")), w(2))), set_("n", ("field", "r", "b")),
                ("open", "c", "t", w(op("<", 1, w(col("a"))), "truth")), ("fetch", "c", "r", "f"), ("fetch", "c", "r", "f"),
                set_("m", ("field", "r", "b")), ("changeat", "c", sets(a=plus(w(col("a")), w(5)), b=w(0))))

        self.assertEqual(self.does((20, 30), make)[0], [(1, 10), (2, 20), (8, 0)])

    def test_statements_on_rows(self):
        def make(w):
            return (
                ("put", "u", sets(x=w(1), y=plus(w(2), w(3))), "n"), ("fill", "u", sets(x=w(col("a")), y=w(col("b"))), "t",
                                                                       w(op("<", w(col("a")), 3), "truth"), "m"),
                ("change", "t", sets(a=w(plus(col("a"), 1)), b=w(NULL)), op("<", w(1), col("a")), "n"),
                ("take", "u", equal(w(col("x")), 1), "m"))

        self.assertEqual(self.does((2, 2), make), [[(1, 10), (3, None), (4, None)], [(2, 20)]])

    def test_variables_set_and_args(self):
        def make(w):
            inner = block(set_("n", plus(var("a"), var("b"))), variables=(
                variable("a", "int", w(4)), variable("z"), variable("b", "int", op("*", w(var("a")), w(10)))))
            return (inner, set_("m", w(w(6))), do("q", w(w(1)), var("m")), ("doby", w(op("join", "q", ""), "text"), (w(2), var("m"))))

        self.does((44, 9), make)

    def test_raise_and_over_rows(self):
        def make(w):
            total = ("sum", "t", w(col("b")), op("<", w(col("a")), 3))
            return (raise_("e", w(total), w("x", "text"), ("count", "t", equal(w(("count", "u", TRUE)), 0))),)

        self.does(("e", (30, "x", 3), (0, 0)), make)

    def test_parts_of_operations(self):
        def make(w):
            return (
                set_("n", ("case", w(TRUE, "truth"), op("-", w(10), op("mod", w(7), w(4))), w(0))),
                ("if", ((op("or", op("and", w(FALSE, "truth"), equal(w(op("div", 1, 0)), 1)), ("not", ("null", w(NULL)))), ()),
                        (op("or", w(NULL, "truth"), ("null", w(NULL))), (set_("m", 1),))), ()))

        self.does((7, 1), make)


class DobyTest(StoreTest):
    def doby(self, e, *args):
        params = (("i", "int", "in"), ("o", "text", "out"), ("b", "int", "both"))
        inner = procedure("inner", set_("o", "got"), set_("b", plus(var("b"), var("i"))), params=params)
        rows = procedure("rows", params=(("r", ("row", "t"), "in"), ("c", ("cursor", "u"), "in")))
        variables = (
            variable("n", "int", 1), variable("w", "text", "inner"), variable("r", ("row", "t")),
            variable("ru", ("row", "u")), variable("c", ("cursor", "u")), variable("ct", ("cursor", "t")))
        outer = procedure("outer", ("doby", e, args), set_("x", var("n")), set_("y", var("w")), variables=variables,
                          params=(("x", "int", "out"), ("y", "text", "out")))
        store = begun(*tables(T, table("u", "a")), *programs(
            inner, rows, outer, procedure("none"), function("f", ("return", NULL)), trigger("g", "t", "after", "put")))
        return run(store, "outer").results

    def test_calling(self):
        self.assertEqual(self.doby(value("inner"), value(5), var("w"), var("n")), (6, "got"))
        self.assertEqual(self.doby(var("w"), var("n"), var("w"), var("n")), (2, "got"))
        self.assertEqual(self.doby(op("join", "in", "ner"), NULL, var("w"), var("n")), (None, "got"))
        self.assertEqual(self.doby(value("none")), (1, "inner"))
        self.assertEqual(self.doby(value("rows"), var("r"), var("c")), (1, "inner"))

    def has_no_procedure(self, *args):
        error = self.raised(self.doby, *args)
        self.assertEqual((error.word, error.details, error.program, error.place), ("noproc", (), "outer", (0, 0)))

    def test_no_procedure(self):
        for e in (NULL, value("zz"), value(""), value("f"), value("g"), value("t"), value("No Word"), value("a" * 40)):
            self.has_no_procedure(e)

    def test_args_that_do_not_fit(self):
        for args in (
            (), (value(5), var("w")), (value(5), var("w"), var("n"), NULL), (value("x"), var("w"), var("n")),
            (value(5), value("x"), var("n")), (value(5), var("w"), value(1)), (value(5), var("n"), var("n")),
            (value(5), var("w"), var("w")), (value(5), NULL, var("n")), (value(5), var("w"), plus(var("n"), 0)),
            (var("r"), var("w"), var("n")), (var("w"), var("w"), var("n")),
        ):
            self.has_no_procedure(value("inner"), *args)
        for args in ((NULL, var("c")), (var("ru"), var("c")), (var("r"), var("ct")), (var("c"), var("r")), (var("r"), NULL)):
            self.has_no_procedure(value("rows"), *args)
        self.has_no_procedure(value("none"), NULL)

    def test_in_a_handler(self):
        q = procedure("q", put("t", a=var("a")), params=(("a", "int", "in"), ("b", "text", "in")))
        by = ("doby", ("word",), (("told", 0, "int"), op("join", ("word",), "")))
        store = begun(("table", T), *programs(q, procedure("p", raise_("q", 5), handlers=(handler("", by),))))
        run(store, "p")
        self.has_rows(store, "t", (5,))

    def test_args_are_evaluated_first(self):
        error = self.raised(self.doby, value("zz"), op("div", 1, 0))
        self.assertEqual(error.word, "division")


class RecursionTest(StoreTest):
    def test_functions(self):
        # Sums up to n, each in a call of its own.
        deep = function("f", ("if", ((op("<", 0, var("n")), (
            ("return", plus(var("n"), ("call", "f", (op("-", var("n"), 1),)))),)),), (("return", value(0)),)),
            params=(("n", "int", "in"),))
        store = begun(("table", T), *programs(deep, procedure(
            "p", set_("r", ("call", "f", (var("n"),))), params=(("n", "int", "in"), ("r", "int", "out")))))
        self.assertEqual(run(store, "p", 7).results, (28,))
        error = self.raised(run, store, "p", 8)
        self.assertEqual((error.word, error.program, error.place), ("depth", "f", (0, 0, 0, 0)))
        self.assertEqual(error.stack, (("p", (0, 0)),) + (("f", (0, 0, 0, 0)),) * 7)
        self.assertEqual(store.put("t", sets(a=("call", "f", (value(7),)))), 1)
        self.assertEqual(self.raised(store.put, "t", sets(a=("call", "f", (value(8),)))).word, "depth")

    def test_procedures(self):
        deep = procedure("p", set_("m", var("n")), ("if", ((op("<", 0, var("n")), (do("p", op("-", var("n"), 1), var("m")),)),), ()),
                         params=(("n", "int", "in"), ("m", "int", "out")))
        store = begun(*programs(deep))
        self.assertEqual(run(store, "p", 8).results, (0,))
        self.assertEqual(self.raised(run, store, "p", 9).word, "depth")

    def test_each_call_has_variables_of_its_own(self):
        p = procedure("p", set_("a", var("n")), ("if", ((op("<", 0, var("n")), (do("p", op("-", var("n"), 1)),)),), ()),
                      put("t", a=var("a")), params=(("n", "int", "in"),), variables=(variable("a"),))
        store = begun(("table", T), *programs(p))
        run(store, "p", 3)
        self.has_rows(store, "t", (0,), (1,), (2,), (3,))

    def test_programs_and_cascades_together(self):
        words = "abcdefg"
        made = [table("a", "id", keys=(("id",),))]
        for k in range(1, 7):
            made.append(table(words[k], "id", keys=(("id",),), references=(("r", ("id",), words[k - 1], "cascade", False),)))
        go = procedure("go", ("take", "a", TRUE, None))
        store = begun(*tables(*made), *programs(
            go, procedure("one", do("go")), procedure("two", do("one")),
            trigger("x", "g", "after", "take", do("go"))))

        def fill():
            for word in words:
                store.put(word, sets(id=1))

        fill()
        # Six cascades, a trigger, and the procedure that it calls.
        run(store, "go")
        self.has_rows(store, "g")
        fill()
        error = self.raised(run, store, "one")
        self.assertEqual((error.word, error.program, error.place, error.stack), (
            "depth", "x", (0, 0), (("one", (0, 0)), ("go", (0, 0)))))
        error = self.raised(run, store, "two")
        self.assertEqual((error.word, error.program, error.place, error.stack), (
            "depth", "go", (0, 0), (("two", (0, 0)), ("one", (0, 0)))))


    def test_what_has_ended_does_not_count(self):
        # Cascades, triggers, functions and procedures run one after the other, then deep ones.
        p = table("p", "id", keys=(("id",),))
        c = table("c", "of", references=(("r", ("of",), "p", "cascade", False), ("q", ("of",), "p", "null", False)))
        down = function("down", ("if", ((equal(var("n"), 1), (("return", value(0)),)),), ()),
                        ("return", ("call", "down", (op("-", var("n"), 1),))), params=(("n", "int", "in"),))
        deep = ("if", ((op("<", ("field", "old", "id"), 9), (set_("n", ("call", "down", (("field", "old", "id"),))),)),), ())
        failing = block(raise_("e"), handlers=(handler("e", raise_("f")),))
        store = begun(*tables(p, c, T), *programs(
            down, procedure("e", failing), procedure("none"), trigger("a", "c", "after", "take"), trigger("b", "p", "after", "take"),
            trigger("g", "p", "after", "take", deep, variables=(variable("n"),)),
            procedure("go", block(do("e"), handlers=(handler("f"),)), do("none"), put("t", a=("call", "down", (value(8),))),
                      ("take", "p", TRUE, None))))
        for many, wanted in ((7, None), (8, "depth")):
            store.put("p", sets(id=9))
            store.put("p", sets(id=many))
            for k in (9, many):
                store.put("c", sets(of=k))
            before = unchanged(store)[:2]
            if wanted is None:
                self.assertEqual(store.take("p", TRUE), 2)
                store.undo(store.mark())
                for k in (9, many):
                    store.put("p", sets(id=k))
                run(store, "go")
            else:
                self.assertEqual(self.raised(store.take, "p", TRUE).word, wanted)
                self.assertEqual(self.raised(run, store, "go").word, wanted)
                self.assertEqual(unchanged(store)[:2], before)


class MostTest(StoreTest):
    def counted(self, many, store, word, *args):
        """The call needs this many rounds and programs."""
        run(store, word, *args, most=many)
        before = unchanged(store)
        error = self.raised(run, store, word, *args, most=many - 1)
        self.assertEqual((error.word, error.details), ("long", ()))
        self.assertEqual(unchanged(store)[:2], before[:2])
        return error

    def test_rounds_and_programs(self):
        loop = ("while", None, op("<", var("n"), 3), (set_("n", plus(var("n"), 1)),))
        each = ("each", None, "r", "t", TRUE, (("look",),))
        store = begun(("table", T), *programs(
            procedure("w", loop, variables=(variable("n", "int", 0),)),
            procedure("e", each, variables=(variable("r", ("row", "t")),)),
            procedure("d", do("w"), do("w")), function("f", ("return", value(1))),
            procedure("c", set_("n", plus(("call", "f", ()), ("call", "f", ()))), variables=(variable("n"),)),
            procedure("s", put("t"), put("t"), ("take", "t", TRUE, None)),
            trigger("ga", "t", "before", "put"), trigger("gb", "t", "after", "put")))
        for _ in range(4):
            store.put("t", ())
        error = self.counted(3, store, "w")
        self.assertEqual((error.program, error.place, error.stack), ("w", (0, 0), ()))
        error = self.counted(4, store, "e")
        self.assertEqual((error.program, error.place), ("e", (0, 0)))
        error = self.counted(8, store, "d")
        self.assertEqual((error.program, error.place, error.stack), ("w", (0, 0), (("d", (0, 1)),)))
        error = self.counted(2, store, "c")
        self.assertEqual((error.program, error.place), ("c", (0, 0)))
        error = self.counted(4, store, "s")
        self.assertEqual((error.program, error.place), ("s", (0, 1)))

    def test_the_called_procedure_does_not_count(self):
        store = begun(*programs(procedure("p"), procedure("q", do("p"))))
        run(store, "p", most=0)
        self.assertEqual(self.counted(1, store, "q").place, (0, 0))

    def test_nothing_handles_it(self):
        last = put("t")
        loop = block(put("t"), ("while", None, TRUE, ()), handlers=(handler("long"), handler("")), last=(last,))
        store = begun(("table", T), *programs(procedure("p", loop, last=(last,), handlers=(handler(""),))))
        error = self.raised(run, store, "p", most=2)
        self.assertEqual(error.word, "long")
        self.assertEqual(error.trace, (
            ("enter", "p"), ("deed", ("mark", 0)), ("at", ()), ("deed", ("mark", 1)), ("at", (0, 0)), ("deed", ("mark", 2)),
            ("at", (0, 0, 0, 0)), ("deed", ("put", "t", 0, (None,))), ("at", (0, 0, 0, 1)), ("round",), ("round",),
            ("raise", "long"), ("leave", "signal"), ("deed", ("undo", 0)), ("deed", ("free", 0))))
        self.assertEqual(error.history, tuple(e[1] for e in error.trace if e[0] == "deed"))
        self.assertEqual(store.journal, error.history)
        self.assertEqual(store.mark(), 0)

    def test_a_program_that_raises_it(self):
        guard = block(raise_("long", 5), handlers=(handler("long"), handler("")), last=(put("t"),))
        store = begun(("table", T), *programs(procedure("p", guard), procedure("q", do("p"), handlers=(handler(""),))))
        error = self.raised(run, store, "q")
        self.assertEqual((error.word, error.details, error.program, error.place), ("long", (5,), "p", (0, 0, 0, 0)))
        self.assertEqual(error.trace[-4:], (
            ("leave", "signal"), ("leave", "signal"), ("deed", ("undo", 0)), ("deed", ("free", 0))))
        self.has_rows(store, "t")

    def test_statements_that_it_leaves(self):
        loop = trigger("g", "t", "after", "put", ("mark", "m"), ("while", None, TRUE, ()))
        store = begun(("table", T), ("sequence", ("s", 1, 1)), *programs(
            loop, procedure("p", put("t", a=("number", "s")), last=(("look",),))))
        error = self.raised(run, store, "p", most=2)
        self.assertEqual(error.trace, (
            ("enter", "p"), ("deed", ("mark", 0)), ("at", ()), ("at", (0, 0)), ("deed", ("number", "s", 1)),
            ("deed", ("put", "t", 0, (1,))), ("enter", "g"), ("at", ()), ("at", (0, 0)), ("deed", ("mark", 1)),
            ("at", (0, 1)), ("round",), ("raise", "long"), ("leave", "signal"), ("fail",), ("leave", "signal"),
            ("deed", ("undo", 0)), ("deed", ("free", 0))))
        self.assertEqual(error.history, (("mark", 0), ("number", "s", 1), ("undo", 0), ("free", 0)))

    def test_long_goes_ahead_of_depth(self):
        down = procedure("p", do("p"))
        store = begun(*programs(down))
        self.assertEqual(self.raised(run, store, "p", most=8).word, "long")
        self.assertEqual(self.raised(run, store, "p", most=9).word, "depth")

    def test_what_does_not_begin_does_not_count(self):
        down = procedure("p", block(do("p"), handlers=(handler("depth"),)), ("while", "l", TRUE, (("leave", "l"),)))
        store = begun(*programs(down))
        # Eight procedures begin, and each of the nine runs has a round.
        self.counted(17, store, "p")

    def test_100000_by_default(self):
        store = begun(*programs(procedure("p", ("while", None, op("<", var("n"), var("to")), (
            set_("n", plus(var("n"), 1)),)), params=(("n", "int", "both"), ("to", "int", "in")))))
        self.assertEqual(run(store, "p", 0, 100000).results, (100000,))
        self.assertEqual(self.raised(run, store, "p", 0, 100001).word, "long")


class TakenBackTest(StoreTest):
    def test_a_signal_that_leaves_the_call(self):
        store = begun(("table", T), ("sequence", ("s", 1, 1)), *programs(
            procedure("q"), procedure("p", put("t", a=("number", "s")), ("mark", "m"), ("make", procedure("new")), ("drop", "q"),
                                      raise_("stop", 1, "x", NULL))))
        store.put("t", sets(a=7))
        store.mark()
        before = unchanged(store)
        error = self.raised(run, store, "p")
        self.assertEqual((error.word, error.details, error.program, error.place), ("stop", (1, "x", None), "p", (0, 4)))
        self.assertEqual((error.stack, error.causes), ((), ()))
        self.assertEqual(unchanged(store)[:2], before[:2])
        self.assertEqual(error.history, (
            ("mark", 1), ("number", "s", 1), ("put", "t", 1, (1,)), ("mark", 2), ("make", (("program", procedure("new")),)),
            ("drop", ("q",)), ("free", 2), ("undo", 1), ("free", 1)))
        self.assertEqual(store.journal, before[2] + error.history)
        self.assertEqual(store.put("t", ()), 1)
        self.assertEqual(list(store.rows("t"))[-1][0], 2)

    def test_no_mark_is_left(self):
        store = begun(("table", T), *programs(procedure("p", ("mark", "m"), put("t")), procedure("e", ("mark", "m"), raise_("e"))))
        run(store, "p")
        self.assertRaises(Raised, run, store, "e")
        self.assertEqual(store.mark(), 0)

    def test_the_store_can_go_on(self):
        store = begun(("table", T), *programs(procedure("p", put("t"))))
        run(store, "p")
        run(store, "p")
        store.commit()
        self.has_rows(store, "t", (None,), (None,))
