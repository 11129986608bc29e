"""Points 34, 41 and 55: programs that are made and dropped by programs, and stale ones."""

from deedstore.errors import Stale
from deedstore.machines import run
from deedstore.programs import stale
from deedstore.steppers import Stepper
from deedstore.stores import Store
from tests.build import (
    FALSE, NULL, TRUE, StoreTest, begun, block, do, function, handler, op, procedure, programs, put,
    raise_, set_, sets, table, trigger, unchanged, value, var, variable,
)

T = ("table", table("t", "a"))
Q = procedure("q", put("t", a=5))


class MakeTest(StoreTest):
    def test_make_and_drop(self):
        store = begun(T, *programs(procedure("p", ("make", Q), ("doby", value("q"), ()), ("drop", "q"))))
        self.assertEqual(run(store, "p").history, (
            ("mark", 0), ("make", (("program", Q),)), ("put", "t", 0, (5,)), ("drop", ("q",)), ("free", 0)))
        self.assertEqual(store.programs, ("p",))

    def has_signal(self, word, details, statement, *things):
        store = begun(T, ("sequence", ("s", 1, 1)), *programs(procedure("p", statement)), *things)
        error = self.raised(run, store, "p")
        self.assertEqual((error.word, error.details, error.program, error.place), (word, details, "p", (0, 0)))

    def test_known_and_unknown(self):
        for word in "tsp":
            self.has_signal("known", (word,), ("make", procedure(word)))
        for word in "tsz":
            self.has_signal("unknown", (word,), ("drop", word))
        # A program may drop itself.
        store = begun(T, *programs(procedure("p", ("drop", "p"), put("t"))))
        run(store, "p")
        self.assertEqual(store.programs, ())
        self.has_rows(store, "t", (None,))

    def test_functions_and_triggers(self):
        f = function("f", ("return", value(7)))
        g = trigger("g", "t", "before", "put", ("new", "a", ("call", "f", ())))
        store = begun(T, *programs(procedure("p", ("make", f), ("make", g), put("t"), ("drop", "g"), put("t"))))
        run(store, "p")
        self.has_rows(store, "t", (7,), (None,))

    def test_busy(self):
        for statement in (("make", procedure("p")), ("drop", "zz")):
            g = trigger("g", "t", "after", "put", statement)
            store = begun(T, *programs(g, procedure("p", put("t"))))
            error = self.raised(store.put, "t", ())
            self.assertEqual((error.word, error.details, error.program), ("busy", (), "g"))
            error = self.raised(run, store, "p")
            self.assertEqual((error.word, error.program, error.stack), ("busy", "g", (("p", (0, 0)),)))
        # Also in a procedure that a trigger calls, but not behind the statement.
        g = trigger("g", "t", "after", "put", do("q"))
        store = begun(T, *programs(g, procedure("q", ("drop", "zz")), procedure("p", put("t"))))
        self.assertEqual(self.raised(run, store, "p").word, "busy")
        store = begun(T, *programs(procedure("p", put("t"), block(put("t", a=op("div", 1, 0)), handlers=(handler(""),)), ("make", Q))))
        run(store, "p")
        self.assertEqual(store.programs, ("p", "q"))


class StaleTest(StoreTest):
    def is_stale(self, store, word, place, fault, *args, **more):
        self.fails(Stale, (word, place, fault), run, store, "p", *args, **more)

    def test_the_called_procedure(self):
        store = begun(T, *programs(procedure("p", put("t"), do("zz"))))
        self.is_stale(store, "p", (0, 1), ("name", "zz"))
        self.assertEqual(store.journal, ())

    def test_a_program_that_is_called(self):
        store = begun(T, ("sequence", ("s", 1, 1)), *programs(
            procedure("p", put("t", a=("number", "s")), block(do("q"), handlers=(handler(""),), last=(put("t"),))), procedure("q", do("zz"))))
        before = unchanged(store)
        self.is_stale(store, "q", (0, 0), ("name", "zz"))
        self.assertEqual(unchanged(store)[:2], before[:2])
        self.assertEqual(store.journal, (
            ("mark", 0), ("number", "s", 1), ("put", "t", 0, (1,)), ("mark", 1), ("undo", 0), ("free", 0)))
        self.assertEqual(store.mark(), 0)

    def test_functions_and_triggers(self):
        f = function("f", ("return", var("zz")))
        store = begun(T, *programs(f, procedure("p", set_("n", ("call", "f", ())), variables=(variable("n"),))))
        self.is_stale(store, "f", (0, 0), ("name", "zz"))
        self.fails(Stale, ("f", (0, 0), ("name", "zz")), store.put, "t", sets(a=("call", "f", ())))
        g = trigger("g", "t", "after", "put", do("zz"))
        marking = trigger("g", "t", "after", "put", ("mark", "m"), set_("n", ("call", "f", ())), variables=(variable("n"),))
        store = begun(T, *programs(f, marking))
        self.fails(Stale, ("f", (0, 0), ("name", "zz")), store.put, "t", ())
        self.assertEqual((store.journal, store.mark()), ((), 0))
        store = begun(T, ("sequence", ("s", 1, 1)), *programs(g, procedure("p", put("t", a=("number", "s")))))
        store.mark()
        # The statement is taken back first, of its deeds only those of numbers stay.
        self.is_stale(store, "g", (0, 0), ("name", "zz"))
        self.assertEqual(store.journal, (("mark", 0), ("mark", 1), ("number", "s", 1), ("undo", 1), ("free", 1)))
        self.fails(Stale, ("g", (0, 0), ("name", "zz")), store.put, "t", sets(a=("number", "s")))
        self.assertEqual(store.journal[-2:], (("free", 1), ("number", "s", 2)))
        self.has_rows(store, "t")

    def test_what_is_made_again_is_no_longer_stale(self):
        store = begun(T, *programs(procedure("p", do("q"))))
        self.is_stale(store, "p", (0, 0), ("name", "q"))
        store.make(*programs(Q))
        run(store, "p")
        store.mark()
        store.drop("q")
        self.is_stale(store, "p", (0, 0), ("name", "q"))
        store.undo(0)
        run(store, "p")
        store.drop("q")
        store.make(*programs(procedure("q", params=(("a", "int", "in"),))))
        self.is_stale(store, "p", (0, 0), ("kind", "do"))
        self.has_rows(store, "t", (5,), (5,))

    def test_tables_that_change(self):
        store = begun(T, *programs(procedure("p", put("t", a=1))))
        run(store, "p")
        store.drop("t")
        self.is_stale(store, "p", (0, 0), ("name", "t"))
        store.make(("table", table("t", "b")))
        self.is_stale(store, "p", (0, 0), ("name", "a"))
        store.drop("t")
        store.make(("table", table("t", "b", "a")))
        run(store, "p")
        self.has_rows(store, "t", (None, 1))
        store.rollback()
        store.begin()
        run(store, "p")
        self.has_rows(store, "t", (1,))

    def test_looked_at_before_each_statement(self):
        store = begun(T, *programs(procedure("p", put("t"), ("drop", "q"), ("if", ((FALSE, (do("q"),)),), ())), Q))
        self.is_stale(store, "p", (0, 2, 0, 0), ("name", "q"))
        self.has_rows(store, "t")
        # Nothing comes behind, so it is not looked at again.
        store = begun(T, *programs(procedure("p", ("if", ((TRUE, (("drop", "q"),)),), (do("q"),))), Q))
        run(store, "p")
        self.assertEqual(store.programs, ("p",))

    def test_in_a_caller(self):
        store = begun(T, *programs(procedure("p", do("r"), set_("n", 1), do("q"), variables=(variable("n"),)), Q, procedure("r", ("drop", "q"))))
        self.is_stale(store, "p", (0, 2), ("name", "q"))
        # A last part does not run for it, a handler does not handle it.
        guard = block(do("r"), ("look",), do("q"), handlers=(handler(""),), last=(put("t"),))
        store = begun(T, *programs(procedure("p", guard), Q, procedure("r", ("drop", "q"))))
        self.is_stale(store, "p", (0, 0, 0, 2), ("name", "q"))
        self.assertEqual(store.journal, (("mark", 0), ("mark", 1), ("drop", ("q",)), ("undo", 0), ("free", 0)))
        self.assertEqual(store.programs, ("p", "q", "r"))

    def test_before_last_parts_and_handlers(self):
        store = begun(T, *programs(procedure("p", ("drop", "q"), last=(put("t"), do("q"))), Q))
        self.is_stale(store, "p", (1, 1), ("name", "q"))
        # What a guard takes back makes it right again.
        guard = block(("drop", "q"), raise_("e"), handlers=(handler("", do("q")),))
        store = begun(T, *programs(procedure("p", guard), Q))
        self.is_stale(store, "p", (0, 0, 1, 0), ("name", "q"))
        inner = block(do("r"), handlers=(handler("", do("q")),))
        store = begun(T, *programs(procedure("p", inner), Q, procedure("r", ("drop", "q"), raise_("e"))))
        run(store, "p")
        self.has_rows(store, "t", (5,))

    def test_before_rounds_and_conditions(self):
        # The condition of the while, of which the value is not evaluated any more.
        loop = ("while", None, op("<", ("call", "f", ()), var("n")), (set_("n", op("-", var("n"), 1)), do("r")))
        f = function("f", ("return", value(0)))
        store = begun(T, *programs(procedure("p", loop, variables=(variable("n", "int", 3),)), f, procedure("r", ("drop", "f"))))
        self.is_stale(store, "p", (0, 0), ("name", "f"))
        each = ("each", None, "x", "t", TRUE, (do("r"),))
        store = begun(T, *programs(procedure("p", put("t"), put("t"), each, variables=(variable("x", ("row", "t")),)),
                                   procedure("r", ("drop", "r"))))
        self.is_stale(store, "p", (0, 2, 0, 0), ("name", "r"))
        # With one row no further round begins.
        store.put("t", ())
        store.drop("p")
        store.make(*programs(procedure("p", each, variables=(variable("x", ("row", "t")),))))
        run(store, "p")
        self.assertEqual(store.programs, ("p",))

    def test_long_goes_ahead(self):
        each = ("each", None, "x", "t", TRUE, (do("r"),))
        store = begun(T, *programs(procedure("p", put("t"), put("t"), each, variables=(variable("x", ("row", "t")),)),
                                   procedure("r", ("drop", "r"))))
        self.assertEqual(self.raised(run, store, "p", most=2).word, "long")
        self.is_stale(store, "p", (0, 2, 0, 0), ("name", "r"), most=3)
        store = begun(*programs(procedure("p", do("q")), procedure("q", do("zz"))))
        self.assertEqual(self.raised(run, store, "p", most=0).word, "long")

    def test_depth_goes_ahead(self):
        made = [procedure(a, do(b)) for a, b in zip("pabcdefgh", "abcdefghi")]
        store = begun(*programs(*made, procedure("i", do("zz"))))
        self.assertEqual(self.raised(run, store, "p").word, "depth")

    def test_the_tree_that_runs(self):
        # p drops itself and makes another p; its own tree goes on and is the one that is looked at.
        other = procedure("p", do("zz"))
        store = begun(T, *programs(procedure("p", ("drop", "p"), ("make", other), put("t", a=1), ("drop", "q"), do("q")), Q))
        self.is_stale(store, "p", (0, 4), ("name", "q"))
        store = begun(T, *programs(procedure("p", ("drop", "p"), ("make", other), put("t", a=1))))
        run(store, "p")
        self.has_rows(store, "t", (1,))
        self.is_stale(store, "p", (0, 0), ("name", "zz"))

    def test_copies_are_looked_at_on_their_own(self):
        store = begun(T, *programs(procedure("p", do("q")), Q))
        run(store, "p")
        other = store.copy()
        other.drop("q")
        self.is_stale(other, "p", (0, 0), ("name", "q"))
        run(store, "p")
        other = Store.of(T, *programs(procedure("p", do("q")), procedure("q")))
        other.begin()
        run(other, "p")


class MadeAgainTest(StoreTest):
    """A program that is made again in the middle of a call: by a procedure that others name by a text alone."""

    # What q may become, and what is wrong then of a program that calls it with an int; or of q itself.
    OTHERS = (
        (None, ("name", "q"), None),
        (procedure("q", params=(("k", "text", "in"),)), ("kind", "do"), None),
        (procedure("q", params=(("k", "int", "out"),)), ("kind", "do"), None),
        (procedure("q"), ("kind", "do"), None),
        (function("q", ("return", value(1)), params=(("k", "int", "in"),)), ("name", "q"), None),
        # True in the place of 1.
        (procedure("q", set_("k", True), params=(("k", "int", "in"),)), None, ("kind", "set")),
        (procedure("q", put("t", a=9), params=(("other", "int", "in"),)), None, None),
    )
    FIRST = procedure("q", set_("k", 1), params=(("k", "int", "in"),))
    CALL = do("q", 5)

    def bodies(self):
        """Bodies of p that let r make q again, with the place at which p is looked at then, and that of its call of q."""
        again = ("doby", value("r"), ())
        yield (again, ("look",), self.CALL), (0, 2)
        yield (block(again, ("look",), self.CALL),), (0, 0, 0, 2)
        yield (("while", "l", TRUE, (again, self.CALL, ("leave", "l"))),), (0, 0, 0, 1)
        yield (block(raise_("e"), handlers=(handler("e", again, self.CALL),)),), (0, 0, 1, 1)
        yield (block(last=(again, self.CALL)),), (0, 0, 1, 1)
        yield (block(again, handlers=(handler(""),), last=(self.CALL,)),), (0, 0, 2, 0)
        yield (put("t"), ("each", None, "x", "t", TRUE, (again, self.CALL))), (0, 1, 0, 1)
        yield (("if", ((TRUE, (again,)),), ()), put("t"), self.CALL), (0, 2)

    def store(self, other, *body):
        changes = [("drop", "q")] + [("make", other)] * (other is not None)
        return begun(T, ("sequence", ("s", 1, 1)), *programs(
            procedure("p", *body, variables=(variable("x", ("row", "t")),)), procedure("r", *changes), self.FIRST))

    def check(self, store, told):
        """p ends so, by run and by a stepper, in the same way."""
        other = store.copy()
        before = unchanged(store)
        stepper = Stepper(other, "p")
        while stepper.at is not None:
            stepper.into()
        if told is None:
            self.assertEqual(run(store, "p").trace, stepper.outcome().trace)
        else:
            self.fails(Stale, told, run, store, "p")
            self.fails(Stale, told, stepper.outcome)
            self.assertEqual(unchanged(store)[:2], before[:2])
            self.assertEqual(store.journal[-2:], (("undo", 0), ("free", 0)))
        self.assertEqual(other.journal, store.journal)
        self.assertTrue(other == store)
        self.assertEqual(store.mark(), 0)

    def test_in_the_middle_of_a_call(self):
        for other, of_p, of_q in self.OTHERS:
            for body, place in self.bodies():
                store = self.store(other, *body)
                self.assertEqual(stale(store), [])
                self.check(store, ("p", place, of_p) if of_p else ("q", (0, 0), of_q) if of_q else None)

    def test_and_back(self):
        for other, _, _ in self.OTHERS[1:]:
            for body, _ in self.bodies():
                store = self.store(other, *body)
                store.drop("r")
                store.make(*programs(procedure("r", ("drop", "q"), ("make", other), ("drop", "q"), ("make", self.FIRST))))
                self.check(store, None)
                self.assertEqual(store.thing("q"), self.FIRST)

    def test_what_a_guard_takes_back(self):
        # Before the raise p is looked at as the catalogue is then; behind it q is the first one again.
        for other, of_p, _ in self.OTHERS:
            guard = block(("doby", value("r"), ()), raise_("e"), handlers=(handler("e", self.CALL),))
            store = self.store(other, guard, self.CALL)
            self.check(store, ("p", (0, 0, 1, 0), of_p) if of_p else None)
            self.assertEqual(store.thing("q"), self.FIRST)

    def test_in_a_trigger(self):
        for other, of_g, of_q in self.OTHERS:
            store = self.store(other, ("doby", value("r"), ()), put("t", a=("number", "s")))
            store.make(*programs(trigger("g", "t", "after", "put", ("look",), ("if", ((op("<", 1, ("field", "new", "a")), ()),), (self.CALL,)))))
            told = None
            if of_g or of_q:
                told = ("g", (0, 1, 1, 0), of_g) if of_g else ("q", (0, 0), of_q)
            self.check(store, told)
            # Of a statement that it leaves, the deeds of numbers stay.
            self.assertEqual(("number", "s", 1) in store.journal, True)
            self.assertEqual("put" in [deed[0] for deed in store.journal], told is None)

    def test_in_a_function(self):
        h = function("h", ("return", value(3)))
        f = function("f", ("return", ("call", "h", ())))
        for other, told in (
            (function("h", ("return", NULL), kind="text"), ("f", (0, 0), ("kind", "return"))),
            (function("h", ("return", value(1)), params=(("k", "int", "in"),)), ("f", (0, 0), ("kind", "return"))),
            (function("h", ("return", TRUE)), ("h", (0, 0), ("kind", "return"))), (procedure("h"), ("f", (0, 0), ("name", "h"))),
            (function("h", ("return", value(4))), None),
        ):
            changes = (("doby", value("r"), ()), put("t", a=("call", "f", ())))
            store = begun(T, *programs(f, h, procedure("p", *changes), procedure("r", ("drop", "h"), ("make", other))))
            self.check(store, told)
            if told is None:
                self.has_rows(store, "t", (4,))

    def test_by_a_stepper(self):
        # Nothing else can change the catalogue while it stands.
        store = self.store(procedure("q"), ("doby", value("r"), ()), ("look",), self.CALL)
        stepper = Stepper(store, "p")
        stops = [stepper.at]
        while stepper.at is not None:
            stops.append(stepper.into())
        self.assertEqual(stops, [("p", ()), ("p", (0, 0)), ("r", ()), ("r", (0, 0)), ("r", (0, 1)), None])
        self.fails(Stale, ("p", (0, 2), ("kind", "do")), stepper.outcome)
