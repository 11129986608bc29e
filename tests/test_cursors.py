"""Point 50: cursors, over tables and views, over rows that change, are taken and come back."""

from deedstore.logged import LoggedTimedStore
from deedstore.machines import run
from tests.build import (
    FALSE, NULL, TRUE, StoreTest, begun, block, col, do, equal, function, handler, op, plus,
    procedure, programs, put, raise_, set_, sets, table, trigger, value, var, variable, view,
)

ROW, CURSOR = ("row", "t"), ("cursor", "t")
VARIABLES = (variable("c", CURSOR), variable("d", CURSOR), variable("r", ROW), variable("f", "truth"), variable("m"))
OPEN = ("open", "c", "t", TRUE)
FETCH = ("fetch", "c", "r", "f")
CLOSE = ("close", "c")
OUT = (("n", "int", "out"), ("w", "text", "out"))


def say(e):
    return set_("w", op("join", ("case", ("null", var("w")), value(""), var("w")), e))


# Writes the value of the row variable behind what is in w, of those from 0 to 4.
SAY_ROW = ("if", tuple((equal(("field", "r", "a"), k), (say(str(k)),)) for k in range(5)), (say("-"),))


def tried(*statements, **parts):
    """The statements; a signal writes its first letter."""
    words = ("cursor", "gone", "key", "null", "view", "stop")
    return block(*statements, handlers=tuple(handler(word, say(word[0])) for word in words), **parts)


class CursorTest(StoreTest):
    def store_with(self, *things, rows=(1, 2, 3)):
        store = begun(("table", table("t", "a", "b", keys=(("a",),))), *things)
        for a in rows:
            store.put("t", sets(a=a))
        return store

    def said(self, wanted, *statements, things=(), rows=(1, 2, 3), variables=()):
        store = self.store_with(*things, *programs(procedure(
            "p", *statements, params=OUT, variables=VARIABLES + tuple(variables))), rows=rows)
        found = run(store, "p").results
        self.assertEqual(found[1], wanted)
        self.store = store
        return found[0]


class FetchTest(CursorTest):
    def test_row_by_row(self):
        loop = ("while", "l", TRUE, (FETCH, ("if", ((("not", var("f")), (("leave", "l"),)),), ()), SAY_ROW))
        self.said("123", OPEN, loop)
        self.said("13", ("open", "c", "t", ("not", equal(col("a"), 2))), loop)
        self.said("z", ("open", "c", "t", NULL), loop, say("z"))

    def test_behind_the_last_one_the_row_stays(self):
        self.said("33z3", OPEN, FETCH, FETCH, FETCH, SAY_ROW, FETCH, SAY_ROW, ("if", ((var("f"), ()),), (say("z"),)), FETCH, SAY_ROW)

    def test_with_the_values_of_the_opening(self):
        self.said("123-", OPEN, FETCH, SAY_ROW, ("change", "t", sets(a=plus(col("a"), 10)), TRUE, None), FETCH, SAY_ROW,
                  ("take", "t", TRUE, None), put("t", a=0), FETCH, SAY_ROW, ("each", None, "r", "t", FALSE, ()),
                  OPEN, FETCH, FETCH, ("if", ((var("f"), ()),), (say("-"),)))

    def test_closed_cursors(self):
        for statement in (FETCH, ("changeat", "c", ()), ("takeat", "c"), CLOSE):
            self.said("c", tried(statement))
            self.said("c", OPEN, FETCH, CLOSE, tried(statement))

    def test_the_signal_names_the_variable(self):
        store = self.store_with(*programs(
            procedure("p", do("q", var("c")), variables=VARIABLES),
            procedure("q", ("fetch", "e", "r", "f"), params=(("e", CURSOR, "in"),), variables=VARIABLES)))
        error = self.raised(run, store, "p")
        self.assertEqual((error.word, error.details, error.program, error.place), ("cursor", ("e",), "q", (0, 0)))

    def test_opening_again(self):
        self.said("11", OPEN, FETCH, SAY_ROW, OPEN, FETCH, SAY_ROW)
        self.said("1c", OPEN, FETCH, SAY_ROW, OPEN, tried(("takeat", "c")))

    def test_an_open_cursor_is_closed_before_the_condition(self):
        wrong = ("open", "c", "t", equal(op("div", 1, 0), 1))
        self.said("xc", OPEN, FETCH, block(wrong, handlers=(handler("division", say("x")),)), tried(FETCH))

    def test_two_cursors(self):
        self.said("112", OPEN, ("open", "d", "t", TRUE), FETCH, SAY_ROW, ("fetch", "d", "r", "f"), SAY_ROW, ("close", "d"), FETCH, SAY_ROW)


class AtTest(CursorTest):
    def test_changeat_and_takeat(self):
        more = sets(b=plus(col("a"), 10))
        self.said(None, OPEN, FETCH, ("changeat", "c", more), FETCH, ("takeat", "c"), FETCH, ("changeat", "c", more))
        self.has_rows(self.store, "t", (1, 11), (3, 13))

    def test_they_change_no_row_variable(self):
        self.said("11", OPEN, FETCH, ("changeat", "c", sets(a=4)), SAY_ROW, ("takeat", "c"), SAY_ROW)
        self.has_rows(self.store, "t", (2, None), (3, None))

    def test_no_row_is_fetched(self):
        for at in (("changeat", "c", ()), ("takeat", "c")):
            self.said("c", OPEN, tried(at))
            self.said("c", OPEN, FETCH, FETCH, FETCH, FETCH, tried(at))
            self.said("c", OPEN, FETCH, ("takeat", "c"), tried(at))
            self.said(None, OPEN, FETCH, ("takeat", "c"), FETCH, tried(at))

    def test_changeat_again_and_again(self):
        again = ("changeat", "c", sets(b=plus(("case", ("null", col("b")), value(0), col("b")), 1)))
        self.said(None, OPEN, FETCH, again, again, again)
        self.assertEqual(self.store.row("t", 0), (1, 3))

    def test_gone(self):
        for at in (("changeat", "c", ()), ("takeat", "c")):
            self.said("g", OPEN, FETCH, ("take", "t", TRUE, None), tried(at))
            self.said("g", OPEN, FETCH, ("change", "t", (), equal(col("a"), 1), None), tried(at))
            self.said(None, OPEN, FETCH, ("change", "t", (), equal(col("a"), 2), None), tried(at))
            self.said("g", OPEN, ("change", "t", (), TRUE, None), FETCH, tried(at))
        store = self.store_with(*programs(procedure("p", OPEN, FETCH, ("take", "t", TRUE, None), ("takeat", "c"), variables=VARIABLES)))
        error = self.raised(run, store, "p")
        self.assertEqual((error.word, error.details, error.place), ("gone", ("t",), (0, 3)))

    def test_gone_in_stores_that_were_made_of_others(self):
        p = procedure("p", OPEN, FETCH, ("change", "t", sets(b=7), TRUE, None), ("takeat", "c"), variables=VARIABLES)
        store = LoggedTimedStore.of(("table", table("t", "a", "b")), *programs(p))
        store.begin()
        for a in (1, 2, 3):
            store.put("t", sets(a=a))
        store.commit()
        for other in (store.copy(), store.behind(2), LoggedTimedStore.recovered(store.log)):
            other.begin()
            self.assertEqual(self.raised(run, other, "p").word, "gone")

    def test_a_change_by_another_cursor(self):
        other = (("open", "d", "t", TRUE), ("fetch", "d", "r", "f"), ("changeat", "d", sets(b=5)))
        self.said("g", OPEN, FETCH, *other, tried(("takeat", "c")))
        self.said(None, OPEN, FETCH, *other, tried(("takeat", "d")))
        self.has_rows(self.store, "t", (2, None), (3, None))

    def test_a_row_that_comes_back(self):
        self.said(None, OPEN, FETCH, ("mark", "m"), ("take", "t", TRUE, None), ("back", "m"), tried(("takeat", "c")))
        self.said(None, OPEN, FETCH, ("mark", "m"), ("change", "t", sets(b=7), TRUE, None), ("back", "m"), tried(("takeat", "c")))
        self.has_rows(self.store, "t", (2, None), (3, None))

    def test_versions_that_its_changeat_gave(self):
        one, two = ("changeat", "c", sets(b=1)), ("changeat", "c", sets(b=2))
        # Back to the version of the opening, and to the one that the first changeat gave.
        self.said(None, OPEN, FETCH, ("mark", "m"), one, ("back", "m"), tried(("takeat", "c")))
        self.said(None, OPEN, FETCH, one, ("mark", "m"), two, ("back", "m"), tried(("changeat", "c", sets(b=plus(col("b"), 5)))))
        self.assertEqual(self.store.row("t", 0), (1, 6))
        self.said("g", OPEN, FETCH, one, ("change", "t", sets(b=9), TRUE, None), tried(two))
        # The version of an opening before, given by the changeat of this cursor.
        self.said(None, OPEN, FETCH, one, ("mark", "m"), ("change", "t", sets(b=9), TRUE, None), OPEN, FETCH, ("back", "m"),
                  OPEN, FETCH, tried(("takeat", "c")))

    def test_a_version_that_its_trigger_gave(self):
        again = trigger("g", "t", "after", "change", ("if", ((equal(("field", "new", "b"), 1), (
            ("change", "t", sets(b=2), equal(col("b"), 1), None),)),), ()))
        self.said("g", OPEN, FETCH, ("changeat", "c", sets(b=1)), tried(("takeat", "c")), things=programs(again))
        self.assertEqual(self.store.row("t", 0), (1, 2))

    def test_a_takeat_that_is_skipped_or_fails(self):
        skip = trigger("g", "t", "before", "take", ("skip",))
        self.said(None, OPEN, FETCH, ("takeat", "c"), tried(("changeat", "c", sets(b=1))), things=programs(skip))
        self.assertEqual(self.store.row("t", 0), (1, 1))
        stop = trigger("g", "t", "after", "take", raise_("stop"))
        self.said("s", OPEN, FETCH, tried(("takeat", "c")), tried(("changeat", "c", sets(b=1))), things=programs(stop))
        self.assertEqual(self.store.row("t", 0), (1, 1))

    def test_a_takeat_that_was_taken_back(self):
        # The position is not taken back: no row is fetched.
        self.said("c", OPEN, FETCH, ("mark", "m"), ("takeat", "c"), ("back", "m"), tried(("takeat", "c")))
        self.assertEqual(len(list(self.store.rows("t"))), 3)

    def test_a_changeat_that_fails(self):
        self.said("k", OPEN, FETCH, tried(("changeat", "c", sets(a=2))), tried(("changeat", "c", sets(a=4))))
        self.assertEqual(self.store.row("t", 0), (4, None))

    def test_they_are_statements(self):
        log = table("log", "a")
        seen = trigger("g", "t", "after", "change", put("log", a=("field", "old", "a")))
        before = trigger("h", "t", "before", "change", ("new", "b", value(8)))
        self.said(None, OPEN, FETCH, FETCH, ("changeat", "c", sets(a=4)), things=(("table", log), *programs(seen, before)))
        self.has_rows(self.store, "log", (2,))
        self.assertEqual(self.store.row("t", 1), (4, 8))

    def test_functions_that_open_close_and_fetch_it(self):
        for statement, wanted in ((("close", "k"), (1, 5)), (("fetch", "k", "r", "f"), (1, 5)), (("open", "k", "t", FALSE), (1, 5))):
            f = function("f", statement, ("return", value(5)), params=(("k", CURSOR, "in"),), variables=VARIABLES)
            at = ("changeat", "c", sets(b=("call", "f", (var("c"),))))
            self.said(None, OPEN, FETCH, at, things=programs(f))
            self.has_rows(self.store, "t", wanted, (2, None), (3, None))
        # Behind it the cursor is as the function has left it.
        f = function("f", CLOSE, ("return", value(5)), params=(("c", CURSOR, "in"),))
        self.said("c", OPEN, FETCH, ("changeat", "c", sets(b=("call", "f", (var("c"),)))), tried(FETCH), things=programs(f))

    def test_a_function_that_opens_the_cursor_that_is_opened(self):
        f = function("f", ("open", "k", "t", TRUE), ("return", value(5)), params=(("k", CURSOR, "in"),))
        again = ("open", "c", "t", op("<", ("call", "f", (var("c"),)), plus(col("a"), 4)))
        self.said("23c", again, FETCH, SAY_ROW, FETCH, SAY_ROW, CLOSE, tried(FETCH), things=programs(f))


class ViewTest(CursorTest):
    VIEW = ("view", view("v", "t", (("q", "a"), ("z", "b")), op("<", col("a"), 3), True))
    V = (variable("cv", ("cursor", "v")), variable("rv", ("row", "v")))
    BEGIN = (("open", "cv", "v", op("<", 1, col("q"))), ("fetch", "cv", "rv", "f"))

    def test_they_change_the_row_of_the_table(self):
        self.said(None, *self.BEGIN, ("changeat", "cv", sets(z=plus(col("q"), 50))), things=(self.VIEW,), variables=self.V)
        self.has_rows(self.store, "t", (1, None), (2, 52), (3, None))
        self.said(None, *self.BEGIN, ("takeat", "cv"), things=(self.VIEW,), variables=self.V)
        self.has_rows(self.store, "t", (1, None), (3, None))

    def test_with_the_values_of_the_view(self):
        found = self.said(None, *self.BEGIN, set_("n", ("field", "rv", "q")), things=(self.VIEW,), variables=self.V)
        self.assertEqual(found, 2)

    def test_whole(self):
        self.said("v", *self.BEGIN, tried(("changeat", "cv", sets(q=9))), things=(self.VIEW,), variables=self.V)

    def test_also_if_the_view_does_not_show_it_any_more(self):
        v = ("view", view("v", "t", (("q", "a"), ("z", "b")), op("<", col("a"), 3)))
        self.said(None, *self.BEGIN, ("changeat", "cv", sets(q=9)), ("changeat", "cv", sets(z=1)), things=(v,), variables=self.V)
        self.has_rows(self.store, "t", (1, None), (9, 1), (3, None))
        self.said(None, *self.BEGIN, ("changeat", "cv", sets(q=9)), ("takeat", "cv"), things=(v,), variables=self.V)
        self.has_rows(self.store, "t", (1, None), (3, None))

    def test_gone_names_the_table(self):
        store = self.store_with(self.VIEW, *programs(procedure(
            "p", *self.BEGIN, ("take", "t", TRUE, None), ("takeat", "cv"), variables=VARIABLES + self.V)))
        error = self.raised(run, store, "p")
        self.assertEqual((error.word, error.details), ("gone", ("t",)))


class ClosingTest(CursorTest):
    def test_when_their_block_is_left(self):
        # The block begins again with a closed cursor; last still has it open.
        inner = block(tried(("fetch", "e", "r", "f")), ("open", "e", "t", TRUE), variables=(variable("e", CURSOR),), last=(
            ("fetch", "e", "r", "f"), SAY_ROW))
        self.said("c1c1", ("while", None, op("<", ("case", ("null", var("n")), value(0), var("n")), 2), (
            inner, set_("n", plus(("case", ("null", var("n")), value(0), var("n")), 1)))))

    def test_those_that_were_opened_in_a_guarded_part(self):
        self.said("1c", ("open", "d", "t", TRUE), block(OPEN, raise_("e"), handlers=(handler("e"),)),
                  ("fetch", "d", "r", "f"), SAY_ROW, tried(FETCH))
        # Opened before, also if it was fetched from within.
        self.said("2", OPEN, block(FETCH, raise_("e"), handlers=(handler("e"),)), FETCH, SAY_ROW)
        # Opened again within.
        self.said("c", OPEN, block(OPEN, raise_("e"), handlers=(handler("e"),)), tried(FETCH))
        # Closed within: it is not opened again.
        self.said("c", OPEN, block(CLOSE, raise_("e"), handlers=(handler("e"),)), tried(FETCH))

    def test_those_that_were_opened_in_a_procedure(self):
        q = procedure("q", ("open", "k", "t", TRUE), ("if", ((var("s"), (raise_("e"),)),), ()), params=(("k", CURSOR, "in"), ("s", "truth", "in")))
        self.said("1", do("q", var("c"), False), FETCH, SAY_ROW, things=programs(q))
        self.said("c", block(do("q", var("c"), True), handlers=(handler("e"),)), tried(FETCH), things=programs(q))

    def test_back(self):
        self.said("1c", ("open", "d", "t", TRUE), ("mark", "m"), OPEN, ("back", "m"), ("fetch", "d", "r", "f"), SAY_ROW, tried(FETCH))
        self.said("1", ("mark", "m"), OPEN, ("mark", "m"), ("back", "m"), FETCH, SAY_ROW)
        self.said("c", ("mark", "m"), OPEN, ("mark", "n"), ("back", "m"), tried(FETCH))

    def test_a_statement_that_fails_closes_none(self):
        f = function("f", ("open", "k", "t", TRUE), raise_("stop"), params=(("k", CURSOR, "in"),))
        # Last leaves the outer block, so the signal goes no further without a handler.
        inner = block(("change", "t", sets(b=("call", "f", (var("c"),))), TRUE, None), last=(("leave", "l"),))
        self.said("s1", block(inner, label="l"), say("s"), FETCH, SAY_ROW, things=programs(f))
