"""Points 21, 22, 24, 25 and 26: put, fill, change and take, their errors and signals."""

from deedstore.errors import BadTree, Busy, InTransaction, NoTransaction, Unknown
from deedstore.stores import Store
from tests.build import (
    NULL, TRUE, StoreTest, begun, block, col, column, equal, function, op, plus, procedure,
    programs, sets, table, tables, trigger, unchanged, value, var, view,
)

T = table("t", "a", column("b", "text"), column("c", "truth"))
NOT_TABLES = ("z", "s", "p", "", "T", None, 5, True, [], {}, ("t",), ["t"])


class ErrorTest(StoreTest):
    def setUp(self):
        one = ("return", value(1))
        self.store = begun(
            ("sequence", ("s", 1, 1)), *tables(T, table("u", "x", "a")),
            ("view", view("v", "t", (("n", "a"), ("w", "b")))),
            *programs(
                procedure("p"), function("f", one), function("g", one, params=(
                    ("x", "int", "in"), ("y", "text", "in"))),
                function("h", one, params=(("x", ("cursor", "t"), "in"), ("y", ("row", "t"), "in")))))
        self.before = unchanged(self.store)

    def tearDown(self):
        self.assertEqual(unchanged(self.store), self.before)

    def is_wrong(self, path, word, action, *args):
        self.fails(BadTree, (path, word), action, *args)

    def statements(self, store, on="t", given=(), c=TRUE):
        return (
            (store.put, on, given), (store.fill, on, given, "u", c), (store.change, on, given, c),
            (store.take, on, c),
        )

    def test_no_transaction_goes_ahead_of_the_rest(self):
        store = Store.of(("table", T))
        for action, *args in self.statements(store, "z", 5, 5):
            self.fails(NoTransaction, (), action, *args)
        for action in (store.commit, store.rollback, store.look, store.mark):
            self.fails(NoTransaction, (), action)
        for action in (store.undo, store.free):
            self.fails(NoTransaction, (), action, None)

    def test_busy_goes_ahead_of_all(self):
        for store in (Store.of(("table", T)), begun(("table", T))):
            store.core.standing = True
            for action, *args in self.statements(store, "z", 5, 5):
                self.fails(Busy, (), action, *args)
            for action in (store.begin, store.commit, store.rollback, store.look, store.mark, store.make,
                           store.drop):
                self.fails(Busy, (), action)
            for action in (store.undo, store.free, store.number, store.add_sequence, store.make, store.drop):
                self.fails(Busy, (), action, [])
            # Questions are answered.
            self.assertEqual((store.tables, list(store.rows("t")), store.row("t", 0)), (("t",), [], None))
            self.assertFalse(store.copy().core.standing)

    def test_unknown(self):
        for x in NOT_TABLES:
            for action, *args in self.statements(self.store, x, 5, 5):
                self.fails(Unknown, (x,), action, *args)
            self.fails(Unknown, (x,), self.store.fill, "t", 5, x, 5)
            self.fails(Unknown, (x,), lambda: list(self.store.rows(x)))
        self.fails(Unknown, ("y",), self.store.fill, "y", (), "z", TRUE)

    def test_rows_raises_when_the_iteration_begins(self):
        rows = self.store.rows("z")
        self.fails(Unknown, ("z",), lambda: list(rows))

    def test_form_of_sets(self):
        for action, given in ((self.store.put, ()), (self.store.fill, ("u", 5)), (self.store.change, (5,))):
            for x in (None, 5, "a", [], [("a", value(1))], {}, {"a": value(1)}, True):
                self.is_wrong((0,), "form", action, "t", x, *given)
            for x in (None, 5, "ab", (), ("a",), ("a", value(1), 1), ["a", value(1)], ("A", value(1)),
                      (1, value(1)), (("a",), value(1)), ([], value(1)), ("abcdefghi", value(1))):
                self.is_wrong((0, 0), "form", action, "t", (x,), *given)
                self.is_wrong((0, 1), "form", action, "t", (("a", value(1)), x, 5), *given)

    def test_columns_of_sets(self):
        for action, given in ((self.store.put, ()), (self.store.fill, ("u", 5)), (self.store.change, (5,))):
            self.is_wrong((0, 0), "name", action, "t", sets(x=1), *given)
            self.is_wrong((0, 1), "name", action, "t", (("a", value(1)), ("a", value(1))), *given)
            self.is_wrong((0, 2), "name", action, "t", (("a", NULL), ("b", NULL), ("a", 5)), *given)
            self.is_wrong((0, 0), "name", action, "t", (("zz", 5),), *given)

    def test_expressions_of_sets(self):
        for action, given in ((self.store.put, ()), (self.store.fill, ("u", 5)), (self.store.change, (5,))):
            self.is_wrong((0, 0, 1), "form", action, "t", (("a", 5),), *given)
            self.is_wrong((0, 0, 1), "form", action, "t", (("a", ["value", 1]),), *given)
            self.is_wrong((0, 0, 1, 2), "form", action, "t", sets(a=("op", "+", 5, 5)), *given)
            self.is_wrong((0, 0, 1), "kind", action, "t", sets(a="x"), *given)
            self.is_wrong((0, 0, 1, 3), "kind", action, "t", sets(a=plus(1, "x")), *given)
            self.is_wrong((0, 1, 1), "kind", action, "t", (("a", NULL), ("b", value(True))), *given)
            self.is_wrong((0, 0, 1, 2), "name", action, "t", sets(a=plus(col("z"), 1)), *given)
            for e in (var("a"), ("field", "a", "a"), ("number", "z"), ("number", "t"), ("count", "z", 5),
                      ("count", "s", TRUE), ("call", "z", 5)[:2] + ((),), ("call", "p", ())):
                self.is_wrong((0, 0, 1), "name", action, "t", (("a", e),), *given)
            for e in (("word",), ("told", 0, "int")):
                self.is_wrong((0, 0, 1), "form", action, "t", (("b", e),), *given)

    def test_columns_that_can_be_named(self):
        self.is_wrong((0, 0, 1), "name", self.store.put, "t", sets(a=col("a")))
        self.is_wrong((0, 0, 1), "name", self.store.fill, "t", sets(b=col("b")), "u", 5)
        self.is_wrong((1,), "name", self.store.fill, "t", sets(a=col("x")), "u", col("c"))
        self.is_wrong((0, 0, 1), "name", self.store.change, "v", sets(n=col("a")), 5)
        self.is_wrong((0, 0), "name", self.store.put, "v", sets(a=1))
        self.is_wrong((0, 0, 1, 2), "name", self.store.put, "t", sets(a=("count", "t", col("x"))))
        self.is_wrong((0, 0, 1, 3), "name", self.store.put, "t", sets(a=("sum", "v", col("n"), col("c"))))

    def test_conditions(self):
        for action, given in ((self.store.fill, ("t", (), "u")), (self.store.change, ("t", ())),
                              (self.store.take, ("t",))):
            for x in (None, True, 5, "c", [], {}, (), ("value",), ["value", True]):
                self.is_wrong((1,), "form", action, *given, x)
            self.is_wrong((1,), "kind", action, *given, value(1))
            self.is_wrong((1,), "kind", action, *given, value("x"))
            self.is_wrong((1,), "name", action, *given, col("z"))
            self.is_wrong((1, 1, 3), "kind", action, *given, ("not", equal(1, "x")))
            self.is_wrong((1, 2), "name", action, *given, op("and", var("x"), 5))

    def test_each_pair_wholly_before_the_next_one(self):
        given = (("a", value("x")), 5)
        self.is_wrong((0, 0, 1), "kind", self.store.put, "t", given)
        given = (("a", value(1)), ("b", col("z")), ("zz", 5), 5)
        self.is_wrong((0, 1, 1), "name", self.store.put, "t", given)
        self.is_wrong((0, 0, 1), "kind", self.store.change, "t", (("a", value("x")),), 5)

    def test_calls(self):
        for e, path, word in (
            (("call", "f", (value(1),)), (2, 0), "kind"),
            (("call", "g", ()), (), "kind"),
            (("call", "g", (value(1),)), (), "kind"),
            (("call", "g", (value(1), value("x"), NULL)), (2, 2), "kind"),
            (("call", "g", (value(1), value("x"), NULL, NULL)), (2, 2), "kind"),
            (("call", "g", (value("x"),)), (2, 0), "kind"),
            (("call", "g", (value(1), value(1), NULL)), (2, 1), "kind"),
            (("call", "g", (value("x"), col("z"))), (2, 1), "name"),
            (("call", "g", (value(1), value("x"), 5)), (2, 2), "form"),
            (("call", "h", (NULL, NULL)), (2, 0), "kind"),
            (("call", "h", (var("x"), NULL)), (2, 0), "name"),
        ):
            self.is_wrong((0, 0, 1, *path), word, self.store.put, "t", (("a", e),))
        self.is_wrong((0, 0, 1), "kind", self.store.put, "t", sets(b=("call", "f", ())))

    def test_over_rows(self):
        for e, path, word in (
            (("sum", "u", value("x"), TRUE), (2,), "kind"),
            (("sum", "u", value(True), TRUE), (2,), "kind"),
            (("least", "u", TRUE, TRUE), (2,), "kind"),
            (("most", "u", col("x"), col("x")), (3,), "kind"),
            (("count", "u", col("x")), (2,), "kind"),
            (("sum", "u", value("x"), col("z")), (3,), "name"),
            (("sum", "u", value("x"), value(1)), (2,), "kind"),
            (("count", "u", 5), (2,), "form"),
        ):
            self.is_wrong((1, 2, *path), word, self.store.take, "t", equal(e, 1))
        self.is_wrong((0, 0, 1), "kind", self.store.put, "t", sets(b=("least", "u", col("x"), TRUE)))
        self.is_wrong((0, 0, 1), "kind", self.store.put, "t", sets(a=("most", "t", col("b"), TRUE)))

    def test_sets_go_ahead_of_the_condition(self):
        self.is_wrong((0,), "form", self.store.change, "t", 5, 5)
        self.is_wrong((1,), "form", self.store.change, "t", (), 5)


class StatementTest(StoreTest):
    def test_by_name(self):
        store = begun(*tables(T, table("u", "x")))
        self.assertEqual(store.put(sets=sets(a=1), table="t"), 1)
        self.assertEqual(store.fill(table="u", sets=sets(x=col("a")), source="t", c=TRUE), 1)
        self.assertEqual(store.change(table="t", sets=(), c=TRUE), 1)
        self.assertEqual(store.take(table="t", c=TRUE), 1)
        self.assertEqual(list(store.rows(word="u")), [(1, (1,))])
        self.assertEqual(store.row(table="u", number=1), (1,))

    def test_put(self):
        store = begun(("table", T))
        self.assertEqual(store.put("t", ()), 1)
        self.assertEqual(store.put("t", (("c", value(True)), ("a", value(5)))), 1)
        self.assertEqual(list(store.rows("t")), [(0, (None, None, None)), (1, (5, None, True))])
        self.assertEqual(store.journal, (("put", "t", 0, (None, None, None)), ("put", "t", 1, (5, None, True))))

    def test_row(self):
        store = begun(("table", T), ("view", view("v", "t", ("a",))), ("sequence", ("s", 1, 1)))
        store.put("t", sets(a=5))
        self.assertEqual(store.row("t", 0), (5, None, None))
        for word, number in (("t", 1), ("t", -1), ("t", None), ("t", False), ("t", "0"), ("t", []),
                             ("v", 0), ("s", 0), ("z", 0), (None, 0), ([], 0), ({}, []), (0, "t")):
            self.assertIsNone(store.row(word, number))

    def test_fill(self):
        store = begun(*tables(T, table("u", "x")))
        for a in (1, 2, None, 3):
            store.put("t", sets(a=value(a), b="w"))
        self.assertEqual(store.fill("u", sets(x=op("*", col("a"), 2)), "t", op("<", 1, col("a"))), 2)
        self.assertEqual(list(store.rows("u")), [(4, (4,)), (5, (6,))])
        self.assertEqual(store.fill("u", (), "t", ("null", col("a"))), 1)
        self.assertEqual(store.fill("u", (), "t", equal(1, 2)), 0)
        # Out of itself: the rows that are put are not gone through.
        self.assertEqual(store.fill("u", sets(x=plus(col("x"), 1)), "u", TRUE), 3)
        self.has_rows(store, "u", (4,), (6,), (None,), (5,), (7,), (None,))

    def test_change(self):
        store = begun(("table", T))
        for a in (1, 2, 3):
            store.put("t", sets(a=a))
        result = store.change("t", (("b", value("x")), ("a", op("*", col("a"), 10))), op("<", col("a"), 3))
        self.assertEqual(result, 2)
        self.assertEqual(list(store.rows("t")), [(0, (10, "x", None)), (1, (20, "x", None)), (2, (3, None, None))])
        self.assertEqual(store.journal[3:], (("change", "t", 0, (10, "x", None)), ("change", "t", 1, (20, "x", None))))

    def test_columns_have_their_old_values_in_all_sets(self):
        store = begun(("table", table("t", "a", "b")))
        store.put("t", sets(a=1, b=2))
        store.change("t", sets(a=col("b"), b=col("a")), TRUE)
        self.has_rows(store, "t", (2, 1))

    def test_rows_that_stay_the_same_are_changes(self):
        store = begun(("table", T))
        store.put("t", sets(a=1))
        self.assertEqual(store.change("t", sets(a=col("a")), TRUE), 1)
        self.assertEqual(store.change("t", (), TRUE), 1)
        self.assertEqual(store.journal[1:], (("change", "t", 0, (1, None, None)),) * 2)

    def test_take(self):
        store = begun(("table", T))
        for a in (1, 2, None, 3):
            store.put("t", sets(a=value(a)))
        self.assertEqual(store.take("t", op("<", 1, col("a"))), 2)
        self.assertEqual(store.take("t", NULL), 0)
        self.assertEqual(store.take("t", ("not", NULL)), 0)
        self.assertEqual(list(store.rows("t")), [(0, (1, None, None)), (2, (None, None, None))])
        self.assertEqual(store.journal[4:], (("take", "t", 1), ("take", "t", 3)))

    def test_numbers_of_rows(self):
        store = begun(*tables(table("a", "x"), table("b", "x")))
        for word in "abba":
            store.put(word, ())
        self.assertEqual([[n for n, _ in store.rows(word)] for word in "ab"], [[0, 3], [1, 2]])
        store.take("b", TRUE)
        k = store.mark()
        store.put("a", ())
        store.undo(k)
        store.put("b", ())
        self.assertEqual([[n for n, _ in store.rows(word)] for word in "ab"], [[0, 3], [5]])
        store.rollback()
        store.begin()
        store.put("a", ())
        self.assertEqual(list(store.rows("a")), [(6, (None,))])

    def test_condition_then_sets_row_by_row(self):
        store = begun(("sequence", ("s", 1, 1)), ("table", table("t", "a", "b")))
        for a in (1, 2, 3):
            store.put("t", sets(a=a))
        odd = op("and", op("<", 0, ("number", "s")), equal(op("mod", col("a"), 2), 1))
        store.change("t", (("b", ("number", "s")), ("a", ("number", "s"))), odd)
        self.has_rows(store, "t", (3, 2), (2, None), (7, 6))

    def test_300_rows(self):
        t = table("t", "a", "b", keys=(("a",),), references=(("up", ("b",), "t", "cascade", False),))
        store = begun(("table", t), ("sequence", ("s", 0, 1)))
        for k in range(10):
            store.put("t", sets(a=k))
        for k in range(1, 30):
            given = sets(a=plus(col("a"), 10 * k), b=plus(col("a"), 10 * k - 10))
            self.assertEqual(store.fill("t", given, "t", op("<", col("a"), 10)), 10)
        self.assertEqual(len(list(store.rows("t"))), 300)
        nearest = ("count", "t", op("<", col("a"), 150))
        self.assertEqual(store.change("t", sets(b=col("b")), op("<", col("a"), nearest)), 150)
        self.assertEqual(store.change("t", sets(a=op("-", 1000, col("a")), b=NULL), TRUE), 300)
        self.assertEqual(store.take("t", TRUE), 300)


class SignalTest(StoreTest):
    """Null, check and key, in their order; what fails leaves nothing but taken numbers."""

    def setUp(self):
        small = ("small", op("<", col("a"), 10))
        even = ("even", equal(op("mod", col("a"), 2), 0))
        t = table("t", column("a", default=0), column("b", "text", False), column("c", "int", False, 0),
                  keys=(("a",), ("b", "c")), checks=(small, even))
        self.store = begun(("table", t), ("sequence", ("s", 1, 1)))
        self.store.put("t", sets(a=2, b="x"))
        self.store.put("t", sets(a=4, b="y"))

    def has_signal(self, word, details, action, *args):
        before = unchanged(self.store)[:4]
        self.signals(word, details, action, *args)
        self.assertEqual(unchanged(self.store)[:4], before)

    def test_null(self):
        store = self.store
        self.has_signal("null", ("t", "b"), store.put, "t", ())
        self.has_signal("null", ("t", "b"), store.put, "t", sets(c=NULL, a=99))
        self.has_signal("null", ("t", "c"), store.put, "t", sets(c=NULL, b="z", a=2))
        self.has_signal("null", ("t", "c"), store.change, "t", sets(c=NULL), equal(col("a"), 4))
        self.assertEqual(store.put("t", sets(a=NULL, b="z")), 1)

    def test_check(self):
        store = self.store
        self.has_signal("check", ("t", "small"), store.put, "t", sets(a=11, b="x"))
        self.has_signal("check", ("t", "even"), store.put, "t", sets(a=5, b="x"))
        self.has_signal("check", ("t", "even"), store.change, "t", sets(a=plus(col("a"), 1)), TRUE)
        # A check that is NULL holds.
        self.assertEqual(store.change("t", sets(a=NULL), TRUE), 2)

    def test_null_check_and_view_for_each_change_in_order(self):
        store = self.store
        first_odd = sets(a=plus(col("a"), ("case", equal(col("a"), 2), value(1), value(0))),
                         b=("case", equal(col("a"), 2), value("x"), NULL))
        self.has_signal("check", ("t", "even"), store.change, "t", first_odd, TRUE)
        first_null = sets(a=plus(col("a"), ("case", equal(col("a"), 2), value(0), value(1))),
                          b=("case", equal(col("a"), 2), NULL, value("x")))
        self.has_signal("null", ("t", "b"), store.change, "t", first_null, TRUE)

    def test_signals_of_checks(self):
        wrong = table("t", "a", checks=(("c", equal(op("div", 6, col("a")), 2)),))
        store = begun(("table", wrong))
        self.signals("division", (), store.put, "t", sets(a=0))
        self.signals("check", ("t", "c"), store.put, "t", sets(a=1))
        self.assertEqual(store.put("t", sets(a=3)), 1)

    def test_key(self):
        store = self.store
        self.has_signal("key", ("t", 0), store.put, "t", sets(a=2, b="z"))
        self.has_signal("key", ("t", 1), store.put, "t", sets(a=6, b="x"))
        self.has_signal("key", ("t", 0), store.put, "t", sets(a=4, b="x"))
        self.has_signal("key", ("t", 1), store.change, "t", sets(b="x"), TRUE)
        self.has_signal("key", ("t", 0), store.change, "t", sets(a=4), TRUE)
        self.assertEqual(store.put("t", sets(a=NULL, b="z")), 1)
        self.assertEqual(store.put("t", sets(a=NULL, b="z", c=1)), 1)

    def test_keys_of_new_rows_in_order(self):
        # The first new row breaks the second key, the second one the first.
        given = sets(a=("case", equal(col("a"), 2), value(6), value(8)), b=value("x"))
        store = self.store
        store.put("t", sets(a=8, b="w"))
        self.has_signal("key", ("t", 1), store.change, "t", given, op("<", col("a"), 8))

    def test_rows_get_numbers_before_the_keys(self):
        self.has_signal("key", ("t", 0), self.store.put, "t", sets(a=2, b="z"))
        self.store.put("t", sets(a=6, b="z"))
        self.assertEqual(list(self.store.rows("t"))[-1][0], 3)
        # But not before null and check.
        self.has_signal("null", ("t", "b"), self.store.put, "t", ())
        self.store.put("t", sets(a=8, b="w"))
        self.assertEqual(list(self.store.rows("t"))[-1][0], 4)

    def test_changes_are_done_all_at_once(self):
        store = self.store
        swap = sets(a=op("-", 6, col("a")), b=("case", equal(col("b"), "x"), value("y"), value("x")))
        self.assertEqual(store.change("t", swap, TRUE), 2)
        self.assertEqual(list(store.rows("t")), [(0, (4, "y", 0)), (1, (2, "x", 0))])
        self.assertEqual(store.change("t", sets(a=plus(col("a"), 2)), TRUE), 2)
        self.assertEqual(list(store.rows("t")), [(0, (6, "y", 0)), (1, (4, "x", 0))])

    def test_numbers_stay_taken_and_in_the_journal(self):
        store = self.store
        before = store.journal
        self.signals("key", ("t", 0), store.put, "t", sets(a=op("*", 2, ("number", "s")), b="z"))
        self.assertEqual(store.journal, before + (("number", "s", 1),))
        self.signals("check", ("t", "even"), store.change, "t", sets(a=plus(1, op("*", 2, ("number", "s")))), TRUE)
        self.assertEqual(store.journal, before + tuple(("number", "s", k) for k in (1, 2, 3)))
        self.has_rows(store, "t", (2, "x", 0), (4, "y", 0))

    def test_nothing_is_changed_before_all_are_read(self):
        store = self.store
        late = op("div", 8, op("-", 4, col("a")))
        self.has_signal("division", (), store.change, "t", sets(a=late), TRUE)
        self.has_signal("division", (), store.take, "t", equal(late, 4))
        self.has_signal("division", (), store.fill, "t", sets(b="z", a=late), "t", TRUE)

    def test_a_statement_that_fails_in_a_trigger(self):
        store = self.store
        store.make(*programs(trigger(
            "after", "t", "after", "put", ("put", "t", sets(a=value(6), b=value("q")), None),
            ("mark", "m"), block(("raise", "stop", (value(7), NULL)), handlers=(((("never",)), ()),)))))
        # The inner put begins the trigger again, which puts the same key again.
        before = unchanged(store)[:4]
        error = self.raised(store.put, "t", sets(a=8, b="z"))
        self.assertEqual((error.word, error.details), ("key", ("t", 0)))
        self.assertEqual(unchanged(store)[:4], before)
        self.assertEqual(store.mark(), 0)


class TransactionTest(StoreTest):
    def test_begin_commit_rollback(self):
        store = Store.of(("table", T))
        self.assertEqual(store.commits, 1)
        self.assertIsNone(store.begin())
        self.fails(InTransaction, (), store.begin)
        store.put("t", sets(a=1))
        self.assertEqual(store.journal, (("put", "t", 0, (1, None, None)),))
        self.assertIsNone(store.look())
        self.assertIsNone(store.commit())
        self.assertEqual((store.commits, store.journal), (2, ()))
        self.fails(NoTransaction, (), store.commit)
        store.begin()
        store.change("t", sets(a=2), TRUE)
        store.put("t", ())
        store.make(("table", table("u", "x")))
        store.put("u", ())
        store.take("t", TRUE)
        store.drop("u", "t")
        self.assertEqual(store.tables, ())
        self.assertIsNone(store.rollback())
        self.assertEqual((store.tables, store.commits, store.journal), (("t",), 2, ()))
        self.assertEqual(list(store.rows("t")), [(0, (1, None, None))])
        self.fails(NoTransaction, (), store.rollback)

    def test_rollback_with_things_that_were_made_and_dropped(self):
        v = view("v", "t", ("a",))
        store = Store.of(("table", T), ("view", v), ("program", procedure("p")))
        store.begin()
        store.put("t", sets(a=1))
        store.commit()
        before = unchanged(store)
        store.begin()
        store.drop("v", "p")
        store.drop("t")
        store.make(("table", table("t", "z")), ("table", table("p", "q")))
        store.put("t", sets(z=9))
        store.drop("t")
        store.make(("program", procedure("v")))
        store.rollback()
        self.assertEqual(unchanged(store), before)
        self.has_rows(store, "v", (1,))
