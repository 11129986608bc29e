"""Points 45, 53, 54 and 55: calls that are made statement by statement."""

from deedstore.errors import (
    BadArgs, Busy, NotEnded, NoTransaction, Raised, Stale, Unknown,
)
from deedstore.faults import faults
from deedstore.histories import is_history, replayed
from deedstore.logged import LoggedStore, LoggedTimedStore, TimedStore
from deedstore.machines import Outcome, run
from deedstore.programs import fault, stale
from deedstore.steppers import Stepper
from deedstore.stores import Store
from tests.build import (
    FALSE, NULL, TRUE, StoreTest, begun, block, col, column, do, equal, function, handler, op,
    plus, procedure, programs, put, raise_, set_, sets, table, tables, trigger, unchanged, value,
    var, variable, view,
)

T = table("t", "a")
N = (variable("n"),)


class StepTest(StoreTest):
    def stops(self, stepper, move="into"):
        """Where the stepper stands, with this move, up to the end."""
        found = [stepper.at]
        while found[-1] is not None:
            found.append(getattr(stepper, move)())
            self.assertEqual(found[-1], stepper.at)
        return found[:-1]


class BeginTest(StepTest):
    """What a stepper raises before its call begins."""

    def test_no_transaction(self):
        store = Store.of(*programs(procedure("p")))
        self.fails(NoTransaction, (), Stepper, store, "p")
        self.fails(NoTransaction, (), Stepper, store, None, 5, most=None)

    def test_unknown(self):
        store = begun(("table", T), ("sequence", ("s", 1, 1)), *programs(function("f"), trigger("g", "t", "after", "put")))
        for word in ("p", "t", "s", "f", "g", "", "P", None, 5, True, [], {}, ("p",)):
            self.fails(Unknown, (word,), Stepper, store, word, 1, most="x")
        self.assertEqual(store.mark(), 0)

    def test_bad_args(self):
        params = (("a", "int", "in"), ("b", "text", "both"), ("c", "truth", "out"))
        store = begun(("table", T), *programs(
            procedure("p", do("zz"), params=params), procedure("q", params=(("r", ("row", "t"), "in"),)),
            procedure("c", params=(("c", ("cursor", "t"), "in"),))))
        for args, word in (
            ((), "a"), ((1,), "b"), ((True, "x"), "a"), (("x", 1), "a"), ((1, 5), "b"), ((1, "x", True), None),
            ((1, "x", None), None), (([], {}), "a"), ((1, ()), "b"), ((10 ** 31, "x"), "a"), ((None, "x" * 41), "b"),
        ):
            self.fails(BadArgs, (word,), Stepper, store, "p", *args)
            self.fails(BadArgs, (word,), Stepper, store, "p", *args, most=None)
        for most in (-1, None, "1", True, [], 10 ** 50 * -1):
            self.fails(BadArgs, ("most",), Stepper, store, "p", 1, "x", most=most)
        for x in ((1,), None, []):
            self.fails(BadArgs, ("r",), Stepper, store, "q", x)
            self.fails(BadArgs, ("c",), Stepper, store, "c", x)
        self.assertEqual(store.journal, ())

    def test_by_name(self):
        store = begun(*programs(procedure("p", params=(("n", "int", "both"),))))
        stepper = Stepper(store, "p", 5, most=3)
        self.assertEqual((stepper.at, stepper.into()), (("p", ()), None))
        stepper = Stepper(store, "p", None, most=10 ** 60)
        self.assertEqual(stepper.until(program="p", place=(5,)), None)
        self.assertEqual(stepper.outcome().results, (None,))
        store.make(*programs(procedure("q")))
        self.assertEqual(Stepper(store=store, procedure="q", most=0).at, ("q", ()))

    def test_a_procedure_that_is_stale_itself(self):
        store = begun(("table", T), *programs(procedure("p", put("t"), do("zz"))))
        store.mark()
        before = unchanged(store)
        stepper = Stepper(store, "p")
        for _ in range(2):
            self.assertEqual((stepper.at, stepper.frames), (None, ()))
            self.assertEqual((stepper.into(), stepper.over(), stepper.out(), stepper.until("p", ())), (None,) * 4)
            self.fails(Stale, ("p", (0, 1), ("name", "zz")), stepper.outcome)
            self.assertIsNone(stepper.give_up())
        self.assertEqual(unchanged(store), before)
        # Nothing stands, so all is possible.
        self.assertEqual(store.mark(), 1)
        self.fails(BadArgs, (None,), Stepper, store, "p", 1)


class MoveTest(StepTest):
    """The moves, over calls of many sorts of statements."""

    def test_statements_one_after_the_other(self):
        store = begun(("table", T), *programs(procedure("p", put("t", a=1), set_("n", 2), put("t", a=var("n")), variables=N)))
        for move in ("into", "over"):
            stepper = Stepper(store, "p")
            self.assertEqual(self.stops(stepper, move), [("p", ()), ("p", (0, 0)), ("p", (0, 1)), ("p", (0, 2))])
        self.has_rows(store, "t", (1,), (2,), (1,), (2,))
        stepper = Stepper(store, "p")
        self.assertEqual((stepper.into(), stepper.into(), stepper.out()), (("p", (0, 0)), ("p", (0, 1)), None))
        self.has_rows(store, "t", *[(1,), (2,)] * 3)

    def test_changes_so_far(self):
        store = begun(("table", T), *programs(procedure("p", put("t", a=1), ("take", "t", TRUE, None))))
        stepper = Stepper(store, "p")
        found = []
        while stepper.at is not None:
            found.append((stepper.at[1], [row for _, row in store.rows("t")], store.journal))
            stepper.into()
        self.assertEqual(found, [
            ((), [], (("mark", 0),)), ((0, 0), [], (("mark", 0),)), ((0, 1), [(1,)], (("mark", 0), ("put", "t", 0, (1,))))])
        self.assertEqual(store.journal[-2:], (("take", "t", 0), ("free", 0)))

    def test_branches(self):
        branches = ("if", ((FALSE, (("look",),)), (NULL, ()), (TRUE, (("look",), ("look",)))), (("look",),))
        store = begun(*programs(procedure("p", branches, ("if", (), (("look",),)), ("if", (), ()))))
        self.assertEqual([place for _, place in self.stops(Stepper(store, "p"))], [
            (), (0, 0), (0, 0, 2, 0), (0, 0, 2, 1), (0, 1), (0, 1, 0, 0), (0, 2)])

    def test_loops(self):
        inner = (set_("n", plus(var("n"), 1)), ("if", ((equal(var("n"), 1), (("next", "l"),)),), ()), ("look",))
        loop = ("while", "l", op("<", var("n"), 2), inner)
        each = ("each", None, "r", "t", TRUE, (("look",),))
        p = procedure("p", loop, each, variables=(variable("n", "int", 0), variable("r", ("row", "t"))))
        store = begun(("table", T), *programs(p))
        store.put("t", ())
        store.put("t", ())
        self.assertEqual([place for _, place in self.stops(Stepper(store, "p"))], [
            (), (0, 0), (0, 0, 0, 0), (0, 0, 0, 1), (0, 0, 0, 1, 0, 0), (0, 0, 0, 0), (0, 0, 0, 1), (0, 0, 0, 2),
            (0, 1), (0, 1, 0, 0), (0, 1, 0, 0)])

    def test_handlers_and_last_parts(self):
        guard = block(raise_("e"), ("look",), handlers=(handler("x"), handler("e", ("look",), ("look",))), last=(("look",),))
        store = begun(*programs(procedure("p", guard, ("look",))))
        wanted = [(), (0, 0), (0, 0, 0, 0), (0, 0, 2, 0), (0, 0, 2, 1), (0, 0, 3, 0), (0, 1)]
        for move in ("into", "over"):
            self.assertEqual([place for _, place in self.stops(Stepper(store, "p"), move)], wanted)

    def test_last_parts_behind_a_signal(self):
        store = begun(*programs(
            procedure("p", block(do("q"), ("look",), last=(("look",),)), handlers=(handler("", ("look",)),)),
            procedure("q", raise_("e"), last=(("look",),))))
        stops = [("p", ()), ("p", (0, 0)), ("p", (0, 0, 0, 0)), ("q", ()), ("q", (0, 0)), ("q", (1, 0)), ("p", (0, 0, 1, 0)), ("p", (1, 0))]
        self.assertEqual(self.stops(Stepper(store, "p")), stops)
        self.assertEqual(self.stops(Stepper(store, "p"), "over"), stops[:3] + stops[6:])
        stepper = Stepper(store, "p")
        stepper.until("q", (0, 0))
        # The last part of q stands in its frame.
        self.assertEqual((stepper.over(), stepper.out()), (("q", (1, 0)), ("p", (0, 0, 1, 0))))

    def test_procedures(self):
        store = begun(*programs(
            procedure("p", do("q"), ("doby", value("q"), ())), procedure("q", do("r"), ("look",)), procedure("r", ("look",))))
        q = [("q", ()), ("q", (0, 0)), ("r", ()), ("r", (0, 0)), ("q", (0, 1))]
        stops = [("p", ()), ("p", (0, 0))] + q + [("p", (0, 1))] + q
        self.assertEqual(self.stops(Stepper(store, "p")), stops)
        self.assertEqual(self.stops(Stepper(store, "p"), "over"), [("p", ()), ("p", (0, 0)), ("p", (0, 1))])
        for k, stop in enumerate(stops):
            for move, wanted in (("over", self.next_of(stops, k, 0)), ("out", self.next_of(stops, k, 1))):
                stepper = Stepper(store, "p")
                for _ in range(k):
                    stepper.into()
                self.assertEqual((stepper.at, getattr(stepper, move)()), (stop, wanted))
                stepper.give_up()

    def next_of(self, stops, k, further):
        """The next stop of a program that is so much further out; here each calls only the next letter."""
        greatest = chr(ord(stops[k][0]) - further)
        return next((stop for stop in stops[k + 1:] if stop[0] <= greatest), None)

    def test_recursion(self):
        # Each frame is another one, though the program is the same.
        again = ("if", ((op("<", 0, var("n")), (do("p", op("-", var("n"), 1)), ("look",))),), ())
        store = begun(*programs(procedure("p", again, params=(("n", "int", "in"),))))
        stepper = Stepper(store, "p", 2)
        stepper.until("p", (0, 0, 0, 0))
        self.assertEqual(len(stepper.frames), 1)
        self.assertEqual((stepper.over(), len(stepper.frames)), (("p", (0, 0, 0, 1)), 1))
        self.assertIsNone(stepper.over())
        stepper = Stepper(store, "p", 2)
        for _ in range(2):
            stepper.until("p", (0, 0, 0, 0))
        self.assertEqual([frame[2][0]["n"] for frame in stepper.frames], [2, 1])
        self.assertEqual((stepper.out(), len(stepper.frames)), (("p", (0, 0, 0, 1)), 1))
        self.assertIsNone(stepper.out())

    def test_another_frame_as_deep(self):
        # The first call of f ends, the second one of the same statement begins as deep.
        f = function("f", ("return", plus(var("k"), 1)), params=(("k", "int", "in"),))
        two = plus(("call", "f", (value(1),)), ("call", "f", (value(2),)))
        store = begun(*programs(f, procedure("p", set_("n", two), ("look",), params=(("n", "int", "out"),))))
        self.assertEqual(self.stops(Stepper(store, "p")), [
            ("p", ()), ("p", (0, 0)), ("f", ()), ("f", (0, 0)), ("f", ()), ("f", (0, 0)), ("p", (0, 1))])
        stepper = Stepper(store, "p")
        stepper.until("f", (0, 0))
        self.assertEqual(stepper.over(), ("p", (0, 1)))
        stepper.over()
        self.assertEqual(stepper.outcome().results, (5,))

    def test_functions_of_variables_and_conditions(self):
        f = function("f", ("return", TRUE), kind="truth")
        call = ("call", "f", ())
        store = begun(("table", T), *programs(f, procedure(
            "p", ("if", ((call, ()),), ()), ("while", "l", call, (("leave", "l"),)), ("take", "t", call, None),
            variables=(variable("x", "truth", call),))))
        store.put("t", ())
        store.put("t", ())
        inner = [("f", ()), ("f", (0, 0))]
        self.assertEqual(self.stops(Stepper(store, "p")), [
            ("p", ()), *inner, ("p", (0, 0)), *inner, ("p", (0, 1)), *inner, ("p", (0, 1, 0, 0)), ("p", (0, 2)), *inner, *inner])
        self.assertEqual(self.stops(Stepper(store, "p"), "over"), [
            ("p", ()), ("p", (0, 0)), ("p", (0, 1)), ("p", (0, 1, 0, 0)), ("p", (0, 2))])

    def test_triggers_and_cascades(self):
        t = table("t", "a", keys=(("a",),))
        u = table("u", "of", references=(("r", ("of",), "t", "cascade", False),))
        store = begun(*tables(t, u), *programs(
            trigger("g", "t", "before", "change", ("new", "a", plus(("field", "new", "a"), 1))),
            trigger("h", "u", "after", "change", ("look",)), trigger("i", "t", "after", "change", do("q")),
            procedure("q", ("look",)), procedure("p", ("change", "t", sets(a=plus(col("a"), 4)), TRUE, None), ("look",))))
        store.put("t", sets(a=1))
        store.put("u", sets(of=1))
        stops = [("p", ()), ("p", (0, 0)), ("g", ()), ("g", (0, 0)), ("h", ()), ("h", (0, 0)), ("i", ()), ("i", (0, 0)),
                 ("q", ()), ("q", (0, 0)), ("p", (0, 1))]
        copy = store.copy()
        self.assertEqual(self.stops(Stepper(copy, "p")), stops)
        self.has_rows(copy, "u", (6,))
        stepper = Stepper(store, "p")
        stepper.until("g", (0, 0))
        # The before-trigger sees the store without any change of this statement.
        self.has_rows(store, "t", (1,))
        self.assertEqual(stepper.over(), ("p", (0, 1)))
        stepper.over()
        stepper = Stepper(store, "p")
        stepper.until("h", ())
        # The cascade is within the statement of p, whose rows are written.
        self.has_rows(store, "t", (11,))
        self.assertEqual([frame[:2] for frame in stepper.frames], [("p", (0, 0)), ("h", ())])
        stepper.give_up()

    def test_until(self):
        loop = ("while", None, op("<", var("n"), 3), (set_("n", plus(var("n"), 1)), do("q")))
        p = procedure("p", loop, variables=(variable("n", "int", 0),))
        store = begun(*programs(p, procedure("q", ("look",))))
        stepper = Stepper(store, "p")
        values = []
        while stepper.until("q", (0, 0)) is not None:
            self.assertEqual(stepper.at, ("q", (0, 0)))
            values.append(stepper.frames[0][2][1]["n"])
        self.assertEqual(values, [1, 2, 3])
        # A place that never comes, and the one where it stands: at least one statement further.
        for program, place in (("q", (0, 1)), ("zz", ()), ("p", (9, 9)), ("p", ()), ("p", (0,))):
            stepper = Stepper(store, "p")
            self.assertIsNone(stepper.until(program, place))
            self.assertEqual(stepper.outcome().results, ())

    def test_behind_the_end(self):
        store = begun(("table", T), *programs(procedure("p", put("t"))))
        stepper = Stepper(store, "p")
        stepper.out()
        journal = store.journal
        for _ in range(2):
            self.assertEqual((stepper.into(), stepper.over(), stepper.out(), stepper.until("p", ())), (None,) * 4)
            self.assertEqual((stepper.at, stepper.frames, stepper.give_up()), (None, (), None))
        self.assertEqual(store.journal, journal)
        self.assertEqual(stepper.outcome().history, journal)


class FrameTest(StepTest):
    def test_params(self):
        params = (("a", "int", "in"), ("b", "text", "out"), ("c", "truth", "both"))
        store = begun(*programs(procedure("p", set_("b", "x"), set_("c", NULL), ("look",), params=params)))
        stepper = Stepper(store, "p", 5, True)
        self.assertEqual(stepper.frames, (("p", (), ({"a": 5, "b": None, "c": True},)),))
        stepper.into()
        self.assertEqual(stepper.frames, (("p", (0, 0), ({"a": 5, "b": None, "c": True}, {})),))
        stepper.until("p", (0, 2))
        self.assertEqual(stepper.frames, (("p", (0, 2), ({"a": 5, "b": "x", "c": None}, {})),))

    def test_blocks(self):
        inner = block(set_("n", 3), ("look",), variables=(variable("n", "int", 2), variable("m", "text")))
        store = begun(*programs(procedure("p", inner, ("look",), variables=(variable("n", "int", 1),), last=(("look",),))))
        found = {}
        stepper = Stepper(store, "p")
        while stepper.at is not None:
            found[stepper.at[1]] = stepper.frames[0][2]
            stepper.into()
        self.assertEqual(found, {
            (): ({},), (0, 0): ({}, {"n": 1}), (0, 0, 0, 0): ({}, {"n": 1}, {"n": 2, "m": None}),
            (0, 0, 0, 1): ({}, {"n": 1}, {"n": 3, "m": None}), (0, 1): ({}, {"n": 1}), (1, 0): ({}, {"n": 1})})

    def test_variables_while_they_are_evaluated(self):
        f = function("f", ("return", value(7)))
        store = begun(*programs(f, procedure("p", variables=(
            variable("a", "int", 1), variable("b", "int", ("call", "f", ())), variable("c", "int", 3)))))
        stepper = Stepper(store, "p")
        stepper.until("f", (0, 0))
        # All are there, as NULL, before their expressions are evaluated in order.
        self.assertEqual(stepper.frames, (("p", (), ({}, {"a": 1, "b": None, "c": None})), ("f", (0, 0), ({}, {}))))

    def test_rows_and_cursors(self):
        t = table("t", "a", column("b", "text"))
        variables = (variable("r", ("row", "t")), variable("c", ("cursor", "t")), variable("f", "truth"))
        store = begun(*tables(t), *programs(
            procedure("p", ("open", "c", "t", TRUE), ("fetch", "c", "r", "f"), do("q", var("c"), var("r")), ("look",), variables=variables),
            procedure("q", ("close", "k"), ("look",), params=(("k", ("cursor", "t"), "in"), ("r", ("row", "t"), "in")))))
        store.put("t", sets(a=4, b="x"))
        stepper = Stepper(store, "p")
        stepper.into()
        self.assertEqual(stepper.frames[0][2][1], {"r": (None, None), "c": False, "f": None})
        stepper.into()
        self.assertEqual(stepper.frames[0][2][1], {"r": (None, None), "c": True, "f": None})
        stepper.into()
        self.assertEqual(stepper.frames[0][2][1], {"r": (4, "x"), "c": True, "f": True})
        stepper.until("q", (0, 0))
        self.assertEqual(stepper.frames[1][2], ({"k": True, "r": (4, "x")}, {}))
        stepper.into()
        # It is the same cursor.
        self.assertEqual((stepper.frames[1][2][0]["k"], stepper.frames[0][2][1]["c"]), (False, False))

    def test_triggers(self):
        t = table("t", "a", "b")
        store = begun(*tables(t), *programs(
            trigger("g", "t", "before", "put", ("new", "b", value(5)), ("if", (), ())),
            trigger("h", "t", "after", "take", ("look",)), trigger("i", "t", "after", "change", ("look",)),
            procedure("p", put("t", a=1), ("change", "t", sets(a=2), TRUE, None), ("take", "t", TRUE, None))))
        stepper = Stepper(store, "p")
        stepper.until("g", (0, 0))
        self.assertEqual(stepper.frames[1], ("g", (0, 0), ({"old": (None, None), "new": (1, None)}, {})))
        stepper.into()
        self.assertEqual(stepper.frames[1][2][0], {"old": (None, None), "new": (1, 5)})
        stepper.until("i", ())
        self.assertEqual(stepper.frames[1], ("i", (), ({"old": (1, 5), "new": (2, 5)},)))
        stepper.until("h", ())
        self.assertEqual(stepper.frames, (("p", (0, 2), ({}, {})), ("h", (), ({"old": (2, 5), "new": (None, None)},))))

    def test_the_places_of_outer_frames(self):
        f = function("f", ("return", TRUE), kind="truth")
        call = ("call", "f", ())
        loop = ("while", "l", op("<", var("n"), 2), (set_("n", plus(var("n"), 1)),))
        store = begun(*programs(f, procedure("p", ("while", "l", op("and", op("<", var("n"), 2), call), (
            set_("n", plus(var("n"), 1)), ("look",))), loop, variables=(variable("n", "int", 0),))))
        stepper = Stepper(store, "p")
        places = []
        while stepper.until("f", (0, 0)) is not None:
            places.append(stepper.frames[0][1])
        # The condition of each round belongs to the while, not to the last statement of the round before.
        self.assertEqual(places, [(0, 0), (0, 0)])

    def test_new_dicts(self):
        store = begun(*programs(procedure("p", ("look",), variables=(variable("n", "int", 1),))))
        stepper = Stepper(store, "p")
        stepper.into()
        frames = stepper.frames
        frames[0][2][1]["n"] = 9
        frames[0][2][0]["z"] = 9
        self.assertEqual(stepper.frames, (("p", (0, 0), ({}, {"n": 1})),))
        stepper.into()
        self.assertEqual(stepper.frames, ())
        self.assertEqual(frames, (("p", (0, 0), ({"z": 9}, {"n": 9})),))


class OutcomeTest(StepTest):
    def test_not_ended(self):
        store = begun(("table", T), *programs(procedure("p", put("t"))))
        stepper = Stepper(store, "p")
        for _ in range(2):
            self.fails(NotEnded, (), stepper.outcome)
            stepper.into()
        stepper.into()
        self.assertIs(type(stepper.outcome()), Outcome)

    def test_results_history_and_trace(self):
        p = procedure("p", put("t", a=var("n")), set_("n", plus(var("n"), 1)), params=(("n", "int", "both"),))
        store = begun(("table", T), *programs(p))
        other = store.copy()
        stepper = Stepper(store, "p", 4)
        self.stops(stepper)
        wanted = run(other, "p", 4)
        for _ in range(2):
            outcome = stepper.outcome()
            self.assertEqual((outcome.results, outcome.history, outcome.trace), (wanted.results, wanted.history, wanted.trace))
        self.assertEqual(store.journal, other.journal)
        # It stays what it was, whatever the store does then.
        store.put("t", ())
        run(store, "p", 8)
        self.assertEqual((stepper.outcome().history, stepper.outcome().trace), (wanted.history, wanted.trace))

    def test_a_signal(self):
        store = begun(("table", T), *programs(procedure("p", put("t"), raise_("e", 1), last=(put("t"),))))
        other = store.copy()
        stepper = Stepper(store, "p")
        self.assertEqual([place for _, place in self.stops(stepper)], [(), (0, 0), (0, 1), (1, 0)])
        error = self.raised(run, other, "p")
        for _ in range(2):
            self.fails(Raised, tuple(vars(error).values()), stepper.outcome)
        self.has_rows(store, "t")
        self.assertEqual(store.mark(), 0)

    def test_long(self):
        loop = ("while", None, TRUE, (put("t"),))
        store = begun(("table", T), *programs(procedure("p", loop, handlers=(handler(""),), last=(put("t"),))))
        stepper = Stepper(store, "p", most=2)
        self.assertEqual([place for _, place in self.stops(stepper)], [(), (0, 0), (0, 0, 0, 0), (0, 0, 0, 0)])
        error = self.raised(stepper.outcome)
        self.assertEqual((error.word, error.place), ("long", (0, 0)))
        self.assertEqual(store.journal[-2:], (("undo", 0), ("free", 0)))


class GiveUpTest(StepTest):
    def given_up(self, store, *target, steps=0):
        """Give up before this statement, or after so many steps."""
        before = store.copy()
        many = len(store.journal)
        stepper = Stepper(store, "p")
        if target:
            self.assertEqual(stepper.until(*target), target)
        for _ in range(steps):
            stepper.into()
        self.assertIsNone(stepper.give_up())
        for _ in range(2):
            self.assertEqual((stepper.at, stepper.frames, stepper.into(), stepper.give_up()), (None, (), None, None))
            self.fails(NotEnded, (), stepper.outcome)
        deeds = store.journal[many:]
        self.assertTrue(store == before)
        self.assertTrue(is_history(before, deeds, store))
        self.assertEqual(store.mark(), 0)
        return deeds

    def test_at_each_statement(self):
        p = procedure("p", put("t", a=1), ("mark", "m"), put("t", a=("number", "s")), ("look",))
        wanted = (("mark", 0), ("put", "t", 0, (1,)), ("mark", 1), ("number", "s", 1), ("put", "t", 1, (1,)))
        for steps, many in ((0, 1), (1, 1), (2, 2), (3, 3), (4, 5)):
            store = begun(("table", T), ("sequence", ("s", 1, 1)), *programs(p))
            self.assertEqual(self.given_up(store, steps=steps), wanted[:many] + (("undo", 0), ("free", 0)))
            self.assertEqual(store.following("s"), 2 if many == 5 else 1)

    def test_no_last_parts_and_no_marks_are_freed(self):
        guard = block(put("t", a=1), raise_("e"), handlers=(handler("", put("t", a=2), ("look",)),), last=(put("t", a=3), ("look",)))
        store = begun(("table", T), *programs(procedure("p", guard, last=(put("t", a=4),))))
        self.assertEqual(self.given_up(store.copy(), "p", (0, 0, 0, 1)), (
            ("mark", 0), ("mark", 1), ("put", "t", 0, (1,)), ("undo", 0), ("free", 0)))
        ahead = (("mark", 0), ("mark", 1), ("put", "t", 0, (1,)), ("undo", 1), ("free", 1), ("put", "t", 1, (2,)))
        # In a handler, then in a last part.
        self.assertEqual(self.given_up(store.copy(), "p", (0, 0, 1, 1)), ahead + (("undo", 0), ("free", 0)))
        self.assertEqual(self.given_up(store.copy(), "p", (0, 0, 2, 1)), ahead + (("put", "t", 2, (3,)), ("undo", 0), ("free", 0)))

    def test_within_triggers_and_functions(self):
        g = trigger("g", "t", "after", "put", ("mark", "m"), ("look",))
        f = function("f", ("return", value(1)))
        store = begun(("table", T), ("sequence", ("s", 1, 1)), *programs(
            g, f, procedure("p", put("t", a=op("+", ("number", "s"), ("call", "f", ()))))))
        # The statement that it leaves is taken back first: of its deeds those of numbers stay.
        wanted = (("mark", 0), ("number", "s", 1), ("undo", 0), ("free", 0))
        for target in (("g", ()), ("g", (0, 0)), ("g", (0, 1)), ("f", (0, 0))):
            self.assertEqual(self.given_up(store.copy(), *target), wanted)

    def test_within_a_call_and_beside_marks(self):
        store = begun(("table", T), *programs(procedure("p", do("q"), ("look",)), procedure("q", put("t"), ("look",))))
        store.put("t", ())
        self.assertEqual(self.given_up(store.copy(), "q", (0, 1)), (("mark", 0), ("put", "t", 1, (None,)), ("undo", 0), ("free", 0)))
        store.mark()
        stepper = Stepper(store, "p")
        stepper.until("p", (0, 1))
        stepper.give_up()
        self.assertEqual(store.journal[-4:], (("mark", 1), ("put", "t", 1, (None,)), ("undo", 1), ("free", 1)))
        self.has_rows(store, "t", (None,))
        # Numbers that were given are not given again.
        store.put("t", ())
        self.assertEqual([number for number, _ in store.rows("t")], [0, 2])
        store.undo(0)
        self.assertEqual(store.mark(), 1)

    def test_what_is_possible_then(self):
        store = begun(("table", T), *programs(procedure("p", put("t", a=1))))
        Stepper(store, "p").give_up()
        self.assertEqual(run(store, "p").results, ())
        store.commit()
        self.has_rows(store, "t", (1,))

    def test_the_catalogue(self):
        q = procedure("q")
        store = begun(*programs(procedure("p", ("make", q), ("drop", "r"), ("look",)), procedure("r")))
        stepper = Stepper(store, "p")
        stepper.until("p", (0, 2))
        self.assertEqual(store.programs, ("p", "q"))
        stepper.give_up()
        self.assertEqual(store.programs, ("p", "r"))


class StaleTest(StepTest):
    def ends_stale(self, store, stops, word, place, named):
        """The stepper stands at these places, then the call ends."""
        other = store.copy()
        stepper = Stepper(store, "p")
        self.assertEqual(self.stops(stepper), stops)
        for _ in range(2):
            self.fails(Stale, (word, place, named), stepper.outcome)
        self.fails(Stale, (word, place, named), run, other, "p")
        self.assertEqual(store.journal, other.journal)
        self.assertTrue(store == other)
        self.assertEqual((stepper.frames, stepper.into(), store.mark()), ((), None, 0))

    def test_behind_a_drop(self):
        # The statement that is found stale never begins.
        store = begun(("table", T), *programs(procedure("p", put("t"), ("drop", "q"), ("look",), do("q")), procedure("q")))
        self.ends_stale(store, [("p", ()), ("p", (0, 0)), ("p", (0, 1))], "p", (0, 3), ("name", "q"))

    def test_a_program_that_begins(self):
        store = begun(*programs(procedure("p", do("q")), procedure("q", do("zz"))))
        self.ends_stale(store, [("p", ()), ("p", (0, 0))], "q", (0, 0), ("name", "zz"))

    def test_a_function_and_a_trigger(self):
        store = begun(("table", T), *programs(
            procedure("p", put("t", a=("call", "f", ()))), function("f", ("return", value(1))), trigger("g", "t", "after", "put", do("zz"))))
        self.ends_stale(store, [("p", ()), ("p", (0, 0)), ("f", ()), ("f", (0, 0))], "g", (0, 0), ("name", "zz"))

    def test_in_a_caller(self):
        guard = block(do("q"), do("r"), handlers=(handler(""),), last=(("look",),))
        store = begun(*programs(procedure("p", guard), procedure("q", ("drop", "r")), procedure("r")))
        self.ends_stale(store, [("p", ()), ("p", (0, 0)), ("p", (0, 0, 0, 0)), ("q", ()), ("q", (0, 0))],
                        "p", (0, 0, 0, 1), ("name", "r"))

    def test_in_a_while(self):
        loop = ("while", None, TRUE, (("doby", value("q"), ()),))
        store = begun(*programs(procedure("p", loop, ("if", ((FALSE, (do("r"),)),), ())), procedure("q", ("drop", "r")), procedure("r")))
        self.ends_stale(store, [("p", ()), ("p", (0, 0)), ("p", (0, 0, 0, 0)), ("q", ()), ("q", (0, 0))],
                        "p", (0, 1, 0, 0), ("name", "r"))

    def test_made_again_meanwhile(self):
        store = begun(*programs(procedure("p", ("drop", "q"), do("q")), procedure("q")))
        stepper = Stepper(store, "p")
        stepper.into()
        self.assertEqual(stale(store), [])
        stepper.into()
        self.assertIsNone(stepper.at)
        self.assertEqual(store.programs, ("p", "q"))


class BusyTest(StepTest):
    def stores(self):
        """Each class of stores, with a stepper that stands."""
        for kind in (Store, LoggedStore, TimedStore, LoggedTimedStore):
            store = kind.of(("sequence", ("s", 1, 1)), ("table", T), ("view", view("v", "t", ("a",))), *programs(
                procedure("p", put("t", a=1), ("look",)), procedure("q", do("zz"))))
            store.begin()
            store.put("t", sets(a=7))
            yield store, Stepper(store, "p")

    def test_all_else_is_busy(self):
        for store, stepper in self.stores():
            for _ in range(3):
                self.assertIsNotNone(stepper.at)
                before = unchanged(store)
                for action, *parts in (
                    (store.begin,), (store.commit,), (store.rollback,), (store.look,), (store.mark,), (store.undo, 0),
                    (store.undo, None), (store.free, 0), (store.free, []), (store.make,), (store.make, None), (store.drop,),
                    (store.drop, "p"), (store.drop, "zz"), (store.add_sequence, ("r", 1, 1)), (store.add_sequence, None),
                    (store.number, "s"), (store.number, None), (store.put, "t", ()), (store.put, "zz", None),
                    (store.fill, "t", (), "v", TRUE), (store.fill, 1, 2, 3, 4), (store.change, "t", (), TRUE),
                    (store.change, None, None, None), (store.take, "t", TRUE), (store.take, [], {}), (run, store, "p"),
                    (run, store, None, 5), (run, store, "q"), (Stepper, store, "p"), (Stepper, store, 5, 5), (Stepper, store, "q"),
                ):
                    self.fails(Busy, (), action, *parts)
                if isinstance(store, LoggedStore):
                    self.fails(Busy, (), store.checkpoint)
                self.assertEqual(unchanged(store), before)
                stepper.into()
            self.assertIsNone(stepper.at)
            store.commit()
            store.begin()
            store.rollback()
            self.fails(NoTransaction, (), store.commit)

    def test_questions(self):
        for store, stepper in self.stores():
            first = store.copy()
            stepper.until("p", (0, 1))
            self.assertEqual((store.tables, store.sequences, store.views, store.programs), (("t",), ("s",), ("v",), ("p", "q")))
            self.assertEqual((store.thing("t"), store.row("t", 1), store.following("s"), store.commits), (T, (1,), 1, 1))
            self.assertEqual([list(store.rows(word)) for word in "tv"], [[(0, (7,)), (1, (1,))]] * 2)
            self.assertEqual(store.journal, (("put", "t", 0, (7,)), ("mark", 0), ("put", "t", 1, (1,))))
            self.assertEqual((faults(store), stale(store)), ([], [("q", (0, 0), ("name", "zz"))]))
            self.assertEqual(fault(store, procedure("x", put("u"))), ((0, 0), ("name", "u")))
            self.assertTrue(is_history(first, store.journal[2:], store))
            self.assertTrue(replayed(first, store.journal[2:]) == store)
            self.assertTrue(replayed(store, (("take", "t", 0),)) != store)
            self.fails(Unknown, ("zz",), store.thing, "zz")
            self.fails(Unknown, ("zz",), store.following, "zz")
            if isinstance(store, TimedStore):
                self.assertEqual((store.cause("t", 0, "a"), store.cause("t", 1, "a")), (None, None))
                self.assertEqual(list(store.behind(1).rows("t")), [])
                self.fails(Unknown, (2,), store.behind, 2)
            if isinstance(store, LoggedStore):
                self.assertTrue(LoggedStore.recovered(store.log).commits, 1)
                self.assertEqual(store.joined(store.log, ""), store.log)
            # Other stores are made at all times.
            self.assertEqual(type(store).of(("table", T)).commits, 1)
            stepper.give_up()

    def test_copies(self):
        for store, stepper in self.stores():
            stepper.until("p", (0, 1))
            copy = store.copy()
            self.assertIs(type(copy), Store)
            self.assertTrue(copy == store)
            self.assertEqual(copy.journal, store.journal)
            # It has the transaction and the marks, the call's, too, but no stepper.
            copy.undo(0)
            self.has_rows(copy, "t", (7,))
            self.assertEqual((copy.mark(), run(copy, "p").results), (1, ()))
            copy.rollback()
            self.has_rows(copy, "t")
            self.has_rows(store, "t", (7,), (1,))
            stepper.into()
            self.assertEqual(stepper.outcome().history, (("mark", 0), ("put", "t", 1, (1,)), ("free", 0)))

    def test_a_copy_within_a_statement(self):
        g = trigger("g", "t", "after", "put", ("mark", "m"), ("look",))
        store = begun(("table", T), *programs(g, procedure("p", put("t", a=1))))
        stepper = Stepper(store, "p")
        stepper.until("g", (0, 1))
        copy = store.copy()
        copy.undo(1)
        self.has_rows(copy, "t", (1,))
        copy.undo(0)
        self.has_rows(copy, "t")
        stepper.out()
        self.has_rows(store, "t", (1,))

    def test_two_stores(self):
        p = procedure("p", put("t", a=1), put("t", a=2))
        store = begun(("table", T), *programs(p))
        other = store.copy()
        one, two = Stepper(store, "p"), Stepper(other, "p")
        one.until("p", (0, 1))
        self.assertEqual((one.at, two.at), (("p", (0, 1)), ("p", ())))
        two.until("p", (0, 1))
        self.has_rows(other, "t", (1,))
        two.into()
        other.commit()
        self.fails(Busy, (), store.commit)
        one.into()
        store.commit()
        self.assertTrue(store == other)
        self.assertEqual(one.outcome().trace, two.outcome().trace)

    def test_one_after_the_other(self):
        store = begun(("table", T), *programs(procedure("p", put("t", a=1))))
        first = Stepper(store, "p")
        self.fails(Busy, (), Stepper, store, "p")
        first.out()
        second = Stepper(store, "p")
        self.fails(Busy, (), run, store, "p")
        # The first one has ended, and is of no account any more.
        self.assertEqual((first.into(), first.give_up()), (None, None))
        self.assertEqual(second.at, ("p", ()))
        second.out()
        self.has_rows(store, "t", (1,), (1,))

    def test_outside_of_transactions(self):
        # Busy goes ahead of NoTransaction and InTransaction.
        store = LoggedStore.of(*programs(procedure("p")))
        store.begin()
        stepper = Stepper(store, "p")
        for action in (store.begin, store.checkpoint):
            self.fails(Busy, (), action)
        stepper.into()
        store.commit()
        self.assertEqual(store.checkpoint(), store.log)


class CauseTest(StepTest):
    """Point 62: causes of values while a stepper stands."""

    def test_causes(self):
        t = table("t", "a", "b")
        guard = block(("change", "t", sets(a=9), TRUE, None), ("look",), raise_("e"), handlers=(handler("", ("look",)),))
        store = TimedStore.of(*tables(t), *programs(procedure("p", ("change", "t", sets(b=5, a=col("a")), TRUE, None), guard, put("t"), ("look",))))
        store.begin()
        store.put("t", sets(a=1))
        store.commit()
        store.begin()
        stepper = Stepper(store, "p")
        found = {}
        while stepper.at is not None:
            numbers = [number for number, _ in store.rows("t")]
            found[stepper.at[1]] = [[store.cause("t", number, word) for word in "ab"] for number in numbers]
            stepper.into()
        self.assertEqual(found, {
            (): [[(2, 0), (2, 0)]], (0, 0): [[(2, 0), (2, 0)]], (0, 1): [[(2, 0), None]], (0, 1, 0, 0): [[(2, 0), None]],
            (0, 1, 0, 1): [[None, None]], (0, 1, 0, 2): [[None, None]], (0, 1, 1, 0): [[(2, 0), None]],
            (0, 2): [[(2, 0), None]], (0, 3): [[(2, 0), None], [None, None]]})
        store.commit()
        self.assertEqual([store.cause("t", 0, word) for word in "ab"], [(2, 0), (3, 0)])

    def test_within_a_statement(self):
        g = trigger("g", "t", "after", "change", ("look",))
        store = TimedStore.of(("table", T), *programs(g, procedure("p", ("change", "t", sets(a=2), TRUE, None))))
        store.begin()
        store.put("t", sets(a=1))
        store.commit()
        store.begin()
        stepper = Stepper(store, "p")
        stepper.until("g", ())
        self.assertIsNone(store.cause("t", 0, "a"))
        stepper.give_up()
        self.assertEqual(store.cause("t", 0, "a"), (2, 0))
