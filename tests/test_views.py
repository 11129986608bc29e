"""Point 27: views, and statements on them."""

from deedstore.errors import BadTree
from tests.build import (
    FALSE, NULL, TRUE, StoreTest, begun, col, column, equal, function, op, plus, programs, sets, table,
    trigger, unchanged, value, var, view,
)

T = table("t", "a", column("b", "text"), column("c", default=5), keys=(("a",),))


class ShownTest(StoreTest):
    def store_with(self, *views):
        store = begun(("table", T), *(("view", v) for v in views))
        for a, b in ((1, "x"), (2, "y"), (None, "x"), (4, None)):
            store.put("t", sets(a=value(a), b=value(b)))
        return store

    def test_rows_and_their_numbers(self):
        store = self.store_with(
            view("v", "t", (("w", "b"), "a"), op("<", col("a"), 4)), view("u", "v", (("z", "a"),), equal(col("w"), "y")))
        self.assertEqual(list(store.rows("v")), [(0, ("x", 1)), (1, ("y", 2))])
        self.assertEqual(list(store.rows("u")), [(1, (2,))])
        store.take("t", equal(col("a"), 1))
        self.assertEqual(list(store.rows("v")), [(1, ("y", 2))])
        # As they are when the iteration begins.
        rows = store.rows("t")
        self.assertEqual(next(rows)[0], 1)
        store.take("t", TRUE)
        self.assertEqual([number for number, _ in rows], [2, 3])
        rows = store.rows("v")
        store.put("t", sets(a=0))
        self.assertEqual(list(rows), [(4, (None, 0))])

    def test_conditions_that_are_null(self):
        store = self.store_with(view("v", "t", ("a",), equal(col("b"), "x")), view("n", "t", ("a",), NULL))
        self.assertEqual(list(store.rows("v")), [(0, (1,)), (2, (None,))])
        self.assertEqual(list(store.rows("n")), [])

    def test_fill_out_of_a_view(self):
        store = self.store_with(view("v", "t", (("w", "b"), ("n", "a")), equal(col("b"), "x")))
        self.assertEqual(store.fill("t", sets(a=plus(10, col("n")), b=op("join", col("w"), "!")), "v", ("not", ("null", col("n")))), 1)
        self.assertEqual(store.row("t", 4), (11, "x!", 5))


class StatementTest(StoreTest):
    def store_with(self, *views):
        store = begun(("table", T), ("sequence", ("s", 1, 1)), *(("view", v) for v in views))
        for a, b in ((1, "x"), (2, "y"), (3, "x")):
            store.put("t", sets(a=a, b=b))
        return store

    def test_change_and_take(self):
        store = self.store_with(view("v", "t", (("n", "a"), ("w", "b")), equal(col("b"), "x")))
        self.assertEqual(store.change("v", sets(n=plus(col("n"), 10), w=op("join", col("w"), "z")), TRUE), 2)
        self.has_rows(store, "t", (11, "xz", 5), (2, "y", 5), (13, "xz", 5))
        self.assertEqual(store.change("v", sets(n=0), TRUE), 0)
        store.change("t", sets(b="x"), TRUE)
        self.assertEqual(store.take("v", op("<", col("n"), 12)), 2)
        self.has_rows(store, "t", (13, "x", 5))

    def test_put_and_fill_give_what_is_fixed(self):
        c = op("and", op("and", equal(col("b"), "k"), equal(col("b"), "z")), op("<", col("a"), 100))
        store = self.store_with(view("v", "t", (("n", "a"),), c))
        store.put("v", sets(n=50))
        self.assertEqual(store.row("t", 3), (50, "k", 5))
        store.fill("v", sets(n=plus(col("a"), 60)), "t", equal(col("a"), 1))
        self.assertEqual(store.row("t", 4), (61, "k", 5))
        store.put("v", ())
        self.assertEqual(store.row("t", 5), (None, "k", 5))

    def test_what_fixes_and_what_does_not(self):
        for c, wanted in (
            (equal(col("c"), 7), 7), (op("and", TRUE, equal(col("c"), 7)), 7),
            (op("and", equal(col("c"), 8), equal(col("c"), 7)), 8),
            (op("and", op("and", TRUE, equal(col("c"), 8)), equal(col("c"), 7)), 8),
            (op("and", equal(col("c"), None), equal(col("c"), 7)), 7),
            (equal(col("c"), None), 5), (equal(7, col("c")), 5), (op("or", equal(col("c"), 7), FALSE), 5),
            (("not", ("not", equal(col("c"), 7))), 5), (equal(col("c"), plus(7, 0)), 5),
            (equal(col("c"), col("c")), 5), (equal("c", "c"), 5), (("case", TRUE, equal(col("c"), 7), FALSE), 5),
        ):
            store = self.store_with(view("v", "t", ("b",), c))
            store.put("v", ())
            self.assertEqual(store.row("t", 3), (None, None, wanted), c)

    def test_what_is_set_goes_ahead_of_what_is_fixed(self):
        store = self.store_with(view("v", "t", ("b", "c"), equal(col("c"), 7)))
        store.put("v", sets(c=9))
        store.put("v", sets(c=NULL))
        self.assertEqual([store.row("t", n)[2] for n in (3, 4)], [9, None])

    def test_the_default_of_a_fixed_column_is_not_evaluated(self):
        t = table("t", column("a", default=("number", "s")), column("b", default=("number", "s")))
        store = begun(("sequence", ("s", 1, 1)), ("table", t), ("view", view("v", "t", ("a",), equal(col("a"), 9))))
        store.put("v", ())
        self.assertEqual(store.row("t", 0), (9, 1))

    def test_true_is_fixed_as_it_is(self):
        t = table("t", column("a", "truth"), "b")
        store = begun(("table", t), ("view", view("v", "t", ("b",), equal(col("a"), True))))
        store.put("v", sets(b=1))
        self.assertIs(store.row("t", 0)[0], True)

    def test_whole(self):
        store = self.store_with(view("v", "t", ("a", "b"), equal(col("b"), "x"), True))
        before = unchanged(store)
        self.signals("view", ("v",), store.put, "v", sets(a=9, b="q"))
        self.signals("view", ("v",), store.put, "v", sets(a=9, b=NULL))
        self.signals("view", ("v",), store.change, "v", sets(b="y"), TRUE)
        self.signals("view", ("v",), store.fill, "v", sets(b=col("b"), a=plus(col("a"), 10)), "t", TRUE)
        self.assertEqual(unchanged(store), before)
        self.assertEqual(store.put("v", sets(a=9)), 1)
        self.assertEqual(store.row("t", 3), (9, "x", 5))
        self.assertEqual(store.change("t", sets(b="y"), equal(col("a"), 9)), 1)
        self.assertEqual(store.take("v", TRUE), 2)

    def test_behind_null_and_check_and_ahead_of_keys(self):
        t = table("t", column("a", "int", False), "b", keys=(("b",),), checks=(("c", op("<", col("b"), 9)),))
        store = begun(("table", t), ("view", view("v", "t", ("a", "b"), op("<", col("b"), 3), True)))
        store.put("t", sets(a=1, b=5))
        self.signals("null", ("t", "a"), store.put, "v", sets(b=10))
        self.signals("check", ("t", "c"), store.put, "v", sets(a=1, b=10))
        self.signals("view", ("v",), store.put, "v", sets(a=1, b=5))
        self.signals("view", ("v",), store.put, "v", sets(a=1))

    def test_views_of_views(self):
        inner = view("i", "t", (("n", "a"), ("w", "b"), ("k", "c")), equal(col("b"), "x"), True)
        outer = view("o", "i", (("m", "n"), "k"), op("and", equal(col("k"), 7), equal(col("w"), "y")))
        store = self.store_with(inner, outer)
        # The innermost value counts for b.
        store.put("o", sets(m=50))
        self.assertEqual(store.row("t", 3), (50, "x", 7))
        self.has_rows(store, "o")
        self.has_rows(store, "i", (1, "x", 5), (3, "x", 5), (50, "x", 7))
        store = self.store_with(inner, view("o", "i", (("m", "n"), ("u", "w")), op("<", 1, col("n"))))
        self.has_rows(store, "o", (3, "x"))
        self.assertEqual(store.change("o", sets(m=-3), TRUE), 1)
        self.assertEqual(store.row("t", 2), (-3, "x", 5))
        # Of a view that is not whole nothing is asked, of the one below it is.
        self.assertEqual(store.put("o", sets(m=-9)), 1)
        self.signals("view", ("i",), store.put, "o", sets(u="q"))

    def test_each_whole_view_by_its_own_condition_the_innermost_first(self):
        inner = view("i", "t", ("a", "b"), op("<", col("a"), 10), True)
        outer = view("o", "i", ("a", "b"), op("<", 5, col("a")), True)
        store = self.store_with(inner, outer)
        self.signals("view", ("i",), store.put, "o", sets(a=NULL))
        self.signals("view", ("i",), store.put, "o", sets(a=20))
        self.signals("view", ("o",), store.put, "o", sets(a=5))
        self.assertEqual(store.put("o", sets(a=6)), 1)

    def test_conditions_are_joined_by_and(self):
        # The second part is evaluated unless the first one is False.
        t = table("t", "a", "n")
        store = begun(("sequence", ("s", 1, 1)), ("table", t), ("view", view("v", "t", ("a", "n"), op("<", col("a"), 5))))
        for a in (1, None, 9):
            store.put("t", sets(a=value(a)))
        self.assertEqual(store.change("v", sets(n=("number", "s")), op("<", 0, ("number", "s"))), 1)
        self.has_rows(store, "t", (1, 2), (None, None), (9, None))
        self.assertEqual(store.following("s"), 4)

    def test_signals_of_conditions(self):
        store = begun(("table", table("t", "a")), ("view", view("v", "t", ("a",), equal(op("div", 4, col("a")), 2), True)))
        self.assertEqual(store.put("t", sets(a=0)), 1)
        self.signals("division", (), store.take, "v", TRUE)
        self.signals("division", (), store.put, "v", sets(a=0))
        self.signals("division", (), store.fill, "t", (), "v", TRUE)
        self.signals("division", (), lambda: list(store.rows("v")))

    def test_triggers_are_those_of_the_table(self):
        store = self.store_with(view("v", "t", (("n", "a"),), equal(col("b"), "x")))
        store.make(*programs(
            trigger("g", "t", "before", "put", ("new", "c", plus(("field", "new", "a"), 1))),
            trigger("h", "v", "before", "put", ("skip",))))
        self.assertEqual(store.put("v", sets(n=70)), 1)
        self.assertEqual(store.row("t", 3), (70, "x", 71))

    def test_columns_that_the_view_does_not_have(self):
        store = self.store_with(view("v", "t", (("n", "a"),)))
        self.fails(BadTree, ((0, 0), "name"), store.put, "v", sets(b="x"))
        self.fails(BadTree, ((1,), "name"), store.take, "v", col("a"))

    def test_calls_of_functions(self):
        store = self.store_with(view("v", "t", (("n", "a"), ("a", "c")), equal(col("b"), "x")))
        store.make(*programs(function("less", ("return", op("-", var("x"), 1)), params=(("x", "int", "in"),))))
        given = sets(a=("call", "less", (plus(col("n"), col("a")),)))
        self.assertEqual(store.change("v", given, equal(("call", "less", (("call", "less", (col("n"),)),)), 1)), 1)
        self.has_rows(store, "t", (1, "x", 5), (2, "y", 5), (3, "x", 7))

    def test_aggregates_within_are_not_renamed(self):
        store = self.store_with(view("v", "t", (("b", "a"),), TRUE))
        self.assertEqual(store.take("v", equal(col("b"), ("count", "t", equal(col("b"), "x")))), 1)
        self.has_rows(store, "t", (1, "x", 5), (3, "x", 5))


class DeepTest(StoreTest):
    def test_views_over_views_with_deep_conditions(self):
        deep = equal(col("a"), 1)
        while len(deep) > 2 or depth(deep) < 25:
            deep = ("not", deep)
        self.assertEqual(depth(deep), 25)
        words = ["v" + chr(ord("a") + k) for k in range(26)]
        things = [("view", view(words[k], words[k + 1] if k < 25 else "t", ("a", "b"), deep, True)) for k in range(26)]
        store = begun(("table", table("t", "a", column("b"))), *things)
        store.put("va", sets(a=1))
        self.assertEqual(list(store.rows("va")), [(0, (1, None))])
        self.signals("view", ("vz",), store.put, "va", sets(a=2))
        self.assertEqual(store.change("va", sets(b=("count", "va", deep)), deep), 1)
        self.has_rows(store, "t", (1, 1))
        self.assertEqual(store.take("va", TRUE), 1)


def depth(tree):
    return 1 + max(map(depth, tree)) if isinstance(tree, tuple) and tree else 1
