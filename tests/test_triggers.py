"""Points 25 and 26: before- and after-triggers of statements."""

from deedstore.stores import Store
from tests.build import (
    NULL, TRUE, StoreTest, begun, block, col, column, equal, function, handler, op, plus,
    programs, put, raise_, sets, table, tables, trigger, unchanged, value, variable,
)


def new(column_word, e):
    return ("new", column_word, e if isinstance(e, tuple) else value(e))


def field(row, word):
    return ("field", row, word)


T = table("t", "a", "b")
SEEN = table("seen", column("who", "text"), "old", "new", "many")


def note(who, many=NULL):
    return put("seen", who=value(who), old=field("old", "a"), new=field("new", "a"), many=many)


class BeforeTest(StoreTest):
    def test_by_words_each_with_what_the_last_one_left(self):
        store = begun(("table", T), *programs(
            trigger("c", "t", "before", "put", new("b", op("*", field("new", "b"), 2))),
            trigger("a", "t", "before", "put", new("b", plus(field("new", "a"), 1)), new("a", 7)),
            trigger("b", "t", "before", "put", new("b", plus(field("new", "b"), field("new", "a"))))))
        store.put("t", sets(a=10))
        self.assertEqual(store.row("t", 0), (7, 2 * (11 + 7)))

    def test_rows_old_and_new(self):
        def both(event):
            return trigger("x" + event, "t", "before", event, raise_(
                "seen", field("old", "a"), field("old", "b"), field("new", "a"), field("new", "b")))

        store = begun(("table", T))
        store.put("t", sets(a=1, b=2))
        store.make(*programs(both("put"), both("change"), both("take")))
        self.assertEqual(self.raised(store.put, "t", sets(a=3)).details, (None, None, 3, None))
        self.assertEqual(self.raised(store.change, "t", sets(a=3), TRUE).details, (1, 2, 3, 2))
        self.assertEqual(self.raised(store.take, "t", TRUE).details, (1, 2, None, None))

    def test_fill_is_put(self):
        store = begun(*tables(T, table("u", "x")), *programs(trigger("g", "t", "before", "put", new("b", 1))))
        store.put("u", sets(x=5))
        store.fill("t", sets(a=col("x")), "u", TRUE)
        self.has_rows(store, "t", (5, 1))

    def test_skip(self):
        odd = equal(op("mod", field("old", "a"), 2), 1)
        store = begun(("table", T), *programs(
            trigger("a", "t", "before", "change", ("if", ((odd, (("skip",),)),), ())),
            trigger("b", "t", "before", "change", new("b", 9)),
            trigger("c", "t", "before", "take", ("if", ((odd, (("skip",),)),), ())),
            trigger("d", "t", "after", "take", raise_("taken", field("old", "a")))))
        for a in (1, 2, 3, 4):
            store.put("t", sets(a=a))
        self.assertEqual(store.change("t", sets(a=plus(col("a"), 10)), TRUE), 2)
        self.has_rows(store, "t", (1, None), (12, 9), (3, None), (14, 9))
        self.assertEqual(store.take("t", op("<", col("a"), 12)), 0)
        self.assertEqual(self.raised(store.take, "t", TRUE).details, (12,))

    def test_a_skipped_row_takes_no_number_and_is_not_looked_at(self):
        t = table("t", column("a", "int", False))
        store = begun(("table", t), *programs(
            trigger("g", "t", "before", "put", ("if", ((("null", field("new", "a")), (("skip",),)),), ()))))
        self.assertEqual(store.put("t", ()), 0)
        self.assertEqual(store.put("t", sets(a=1)), 1)
        self.assertEqual(list(store.rows("t")), [(0, (1,))])

    def test_what_they_set_is_looked_at(self):
        t = table("t", column("a", "int", False, 0), checks=(("c", op("<", col("a"), 5)),), keys=(("a",),))
        store = begun(("table", t), *programs(
            trigger("g", "t", "before", "put", new("a", ("case", equal(field("new", "a"), 1), NULL, value(7)))),
            trigger("h", "t", "before", "change", new("a", 0))))
        self.signals("null", ("t", "a"), store.put, "t", sets(a=1))
        self.signals("check", ("t", "c"), store.put, "t", sets(a=2))
        store.drop("g")
        store.put("t", ())
        store.put("t", sets(a=1))
        self.signals("key", ("t", 0), store.change, "t", (), TRUE)

    def test_they_see_the_store_without_any_change_of_the_statement(self):
        count = ("count", "t", TRUE)
        total = ("sum", "t", col("a"), TRUE)
        store = begun(*tables(T, table("u", "x")), *programs(
            trigger("g", "t", "before", "put", new("b", count)),
            trigger("h", "t", "before", "change", new("b", total))))
        for x in (1, 2, 3):
            store.put("u", sets(x=x))
        store.fill("t", sets(a=col("x")), "u", TRUE)
        self.has_rows(store, "t", (1, 0), (2, 0), (3, 0))
        store.change("t", sets(a=op("*", col("a"), 10)), TRUE)
        self.has_rows(store, "t", (10, 6), (20, 6), (30, 6))

    def test_a_hidden_row(self):
        # Within the block the word new is an integer; the new row is set all the same.
        hiding = block(new("a", plus(("var", "new"), 1)), variables=(variable("new", "int", 5),))
        store = begun(("table", T), *programs(trigger("g", "t", "before", "put", hiding)))
        store.put("t", sets(a=1))
        self.has_rows(store, "t", (6, None))

    def test_what_handlers_take_back_is_not_the_new_row(self):
        guard = block(new("a", 5), raise_("x"), handlers=(handler("x", new("b", 6)),))
        store = begun(("table", T), *programs(trigger("g", "t", "before", "put", guard)))
        store.put("t", sets(a=1))
        self.has_rows(store, "t", (5, 6))
        self.assertEqual(store.journal, (("mark", 0), ("undo", 0), ("free", 0), ("put", "t", 0, (5, 6))))

    def test_last_can_hold_a_skip_up(self):
        hold = block(("skip",), last=(("leave", "out"),))
        store = begun(("table", T), *programs(trigger(
            "g", "t", "before", "put", block(hold, label="out"), new("b", 3))))
        self.assertEqual(store.put("t", sets(a=1)), 1)
        self.has_rows(store, "t", (1, 3))


class AfterTest(StoreTest):
    def test_by_words_for_each_change_in_order(self):
        count = ("count", "t", TRUE)
        store = begun(*tables(T, SEEN, table("u", "x")), *programs(
            trigger("b", "t", "after", "put", note("b", count)), trigger("a", "t", "after", "put", note("a", count)),
            trigger("c", "t", "after", "change", note("c")), trigger("d", "t", "after", "take", note("d"))))
        for x in (1, 2):
            store.put("u", sets(x=x))
        store.fill("t", sets(a=col("x")), "u", TRUE)
        self.has_rows(store, "seen", ("a", None, 1, 2), ("b", None, 1, 2), ("a", None, 2, 2), ("b", None, 2, 2))
        store.take("seen", TRUE)
        store.change("t", sets(a=plus(col("a"), 5)), TRUE)
        store.take("t", op("<", col("a"), 7))
        self.has_rows(store, "seen", ("c", 1, 6, None), ("c", 2, 7, None), ("d", 6, None, None))

    def test_with_the_rows_as_they_were_written(self):
        store = begun(*tables(T, SEEN), *programs(
            trigger("a", "t", "after", "put", ("change", "t", sets(a=99), TRUE, None)),
            trigger("b", "t", "after", "put", note("b"), ("take", "t", TRUE, None)),
            trigger("c", "t", "after", "put", note("c"))))
        self.assertEqual(store.put("t", sets(a=1)), 1)
        self.has_rows(store, "seen", ("b", None, 1, None), ("c", None, 1, None))
        self.has_rows(store, "t")

    def test_behind_cascades(self):
        p = table("p", "id", keys=(("id",),))
        c = table("c", "of", references=(("r", ("of",), "p", "cascade", False),))
        log = table("log", column("w", "text"), "n")
        store = begun(*tables(p, c, log), *programs(
            trigger("a", "p", "after", "take", put("log", w=value("p"), n=("count", "c", TRUE))),
            trigger("b", "c", "after", "take", put("log", w=value("c"), n=("count", "p", TRUE))),
            trigger("d", "c", "before", "take", ("if", ((equal(("count", "p", TRUE), 0), ()),), (raise_("x"),)))))
        for k in (1, 2):
            store.put("p", sets(id=k))
            store.put("c", sets(of=k))
        store.take("p", TRUE)
        self.has_rows(store, "log", ("c", 0), ("c", 0), ("p", 0), ("p", 0))

    def test_deep_ones(self):
        def down(to):
            return trigger("g", "t", "after", "put", ("if", ((op("<", field("new", "a"), to), (
                put("t", a=plus(field("new", "a"), 1)),)),), ()))

        store = begun(("table", T), *programs(down(8)))
        self.assertEqual(store.put("t", sets(a=1)), 1)
        self.has_rows(store, "t", *[(k, None) for k in range(1, 9)])
        before = unchanged(store)
        error = self.raised(store.put, "t", sets(a=0))
        self.assertEqual(
            (error.word, error.program, error.place), ("depth", "g", (0, 0, 0, 0)))
        self.assertEqual(error.stack, (("", ()),) + (("g", (0, 0, 0, 0)),) * 7)
        self.assertEqual(unchanged(store), before)

    def test_depth_can_be_handled(self):
        guard = block(put("t", a=plus(field("new", "a"), 1)), handlers=(handler("depth"),))
        store = begun(("table", T), *programs(trigger("g", "t", "after", "put", guard)))
        self.assertEqual(store.put("t", sets(a=1)), 1)
        # The statement whose trigger did not begin is taken back.
        self.has_rows(store, "t", *[(k, None) for k in range(1, 9)])

    def test_a_signal_takes_all_back(self):
        store = begun(*tables(T, SEEN), ("sequence", ("s", 1, 1)), *programs(
            trigger("a", "t", "after", "put", note("a", ("number", "s")), ("mark", "m")),
            trigger("b", "t", "after", "put", raise_("stop", 5, "x"))))
        error = self.raised(store.put, "t", ())
        fields = (error.word, error.details, error.program, error.place, error.stack, error.causes)
        self.assertEqual(fields, ("stop", (5, "x"), "b", (0, 0), (("", ()),), ()))
        self.assertEqual((error.history, error.trace), ((), ()))
        self.assertEqual(store.journal, (("number", "s", 1),))
        self.assertEqual([list(store.rows(word)) for word in ("seen", "t")], [[], []])
        self.assertEqual(store.mark(), 0)

    def test_what_a_trigger_handles(self):
        guard = block(put("seen", many=value(1)), raise_("x", 1), handlers=(handler("x", put("seen", many=value(2))),))
        store = begun(*tables(T, SEEN), *programs(trigger("a", "t", "after", "put", guard)))
        store.put("t", ())
        self.has_rows(store, "seen", (None, None, None, 2))
        self.assertEqual(store.journal, (
            ("put", "t", 0, (None, None)), ("mark", 0), ("put", "seen", 1, (None, None, None, 1)),
            ("undo", 0), ("free", 0), ("put", "seen", 2, (None, None, None, 2))))


class ManyTest(StoreTest):
    def test_most_of_a_statement_outside_of_calls(self):
        class Small(Store):
            MOST = 3

        loop = trigger("g", "t", "after", "put", ("mark", "m"), ("while", None, TRUE, ()))
        rounds = trigger("h", "t", "after", "change", block(
            ("each", None, "r", "t", TRUE, ()), variables=(("r", ("row", "t"), None),)))
        store = Small.of(("table", T), *programs(rounds))
        store.begin()
        for _ in range(2):
            store.put("t", ())
        # A trigger and two rounds for each of the rows.
        error = self.raised(store.change, "t", sets(a=1), TRUE)
        self.assertEqual((error.word, error.program, error.place, error.stack), ("long", "", (), ()))
        self.has_rows(store, "t", (None, None), (None, None))
        store.take("t", TRUE)
        store.put("t", ())
        self.assertEqual(store.change("t", sets(a=1), TRUE), 1)
        store.make(*programs(loop))
        error = self.raised(store.put, "t", ())
        self.assertEqual((error.word, error.program, error.place), ("long", "g", (0, 1)))
        # The mark that was set in the statement is not freed, but dropped with it.
        self.assertEqual(store.mark(), 0)

    def test_functions_and_triggers_of_other_events_do_not_run(self):
        store = begun(("table", T), *programs(
            trigger("a", "t", "after", "take", raise_("x")), trigger("b", "t", "before", "change", raise_("x")),
            trigger("c", "u", "after", "put", raise_("x")), function("f", ("return", value(1)))))
        self.assertEqual(store.put("t", ()), 1)
