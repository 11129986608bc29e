"""Points 11, 12 and 13: the values of expressions over rows, tables, views and sequences."""

from deedstore.errors import BadTree
from tests.build import (
    FALSE, NULL, TRUE, StoreTest, begun, col, column, equal, function, op, plus, programs, sets,
    table, tables, value, var, view,
)

G = 10 ** 30
TRUTHS = (True, False, None)


class ValueTest(StoreTest):
    def setUp(self):
        self.store = begun(
            ("sequence", ("s", 1, 1)),
            *tables(
                table("x", column("i"), column("t", "text"), column("b", "truth")),
                table("r", column("a"), column("w", "text"), column("b", "truth"))),
            ("view", view("v", "r", (("n", "a"), "w"), op("<", 1, col("a")))))

    def put_rows(self, *rows):
        for a, w, b in rows:
            self.store.put("r", sets(a=value(a), w=value(w), b=value(b)))

    def value_of(self, e, kind="i"):
        """The value of e, as a put gives it to a column."""
        self.store.put("x", ((kind, e),))
        found = list(self.store.rows("x"))[-1][1]
        return found["itb".index(kind)]

    def is_value(self, e, wanted):
        kind = "b" if isinstance(wanted, bool) else "t" if isinstance(wanted, str) else "i"
        found = self.value_of(e, kind)
        self.assertEqual((found, type(found)), (wanted, type(wanted)), e)

    def is_null(self, e, kind="i"):
        self.assertIsNone(self.value_of(e, kind), e)

    def has_signal(self, word, e, kind="i"):
        self.signals(word, (), self.store.put, "x", ((kind, e),))


class OperationTest(ValueTest):
    def test_integers(self):
        for o, a, b, wanted in (
            ("+", 2, -5, -3), ("-", 2, -5, 7), ("*", 2, -5, -10), ("div", 7, 2, 3), ("div", -7, 2, -4),
            ("div", 7, -2, -4), ("div", -7, -2, 3), ("mod", 7, 2, 1), ("mod", -7, 2, 1), ("mod", 7, -2, -1),
            ("mod", -7, -2, -1), ("mod", 6, 3, 0), ("div", 0, 5, 0), ("mod", 0, -5, 0),
        ):
            self.is_value(op(o, a, b), wanted)

    def test_texts(self):
        self.is_value(op("join", "ab", "c"), "abc")
        self.is_value(op("join", "", ""), "")
        self.is_value(op("join", "a" * 20, "b" * 20), "a" * 20 + "b" * 20)
        self.has_signal("range", op("join", "a" * 20, "b" * 21), "t")

    def test_comparisons(self):
        for o, a, b, wanted in (
            ("=", 1, 1, True), ("=", 1, 2, False), ("=", "a", "a", True), ("=", "a", "A", False),
            ("=", True, True, True), ("=", True, False, False), ("<", 1, 2, True), ("<", 2, 2, False),
            ("<", "", "a", True), ("<", "B", "a", True), ("<", "ab", "a", False), ("<", "10", "9", True),
        ):
            self.is_value(op(o, a, b), wanted)

    def test_null_in_each_operation(self):
        for o in ("+", "-", "*", "div", "mod"):
            for a, b in ((None, 1), (1, None), (None, None), (None, 0)):
                self.is_null(op(o, a, b))
        for a, b in ((None, "a"), ("a", None), (None, None), (None, "a" * 40)):
            self.is_null(op("join", a, b), "t")
        for o in ("=", "<"):
            for a, b in ((None, 1), (1, None), (None, None), ("a", None)):
                self.is_null(op(o, a, b), "b")
        self.is_null(("not", NULL), "b")
        self.is_value(("null", NULL), True)
        self.is_value(("null", value(0)), False)
        self.is_value(("null", value("")), False)
        self.is_value(("null", FALSE), False)

    def test_truths_of_three_kinds(self):
        for a in TRUTHS:
            for b in TRUTHS:
                both = False if a is False or b is False else None if a is None or b is None else True
                either = True if a is True or b is True else None if a is None or b is None else False
                for o, wanted in (("and", both), ("or", either)):
                    found = self.value_of(op(o, a, b), "b")
                    self.assertIs(found, wanted, (o, a, b))
        self.is_value(("not", TRUE), False)
        self.is_value(("not", FALSE), True)

    def test_case(self):
        for c, wanted in ((True, 1), (False, 2), (None, 2)):
            self.is_value(("case", value(c), value(1), value(2)), wanted)
        self.is_null(("case", TRUE, NULL, value(2)))

    def test_division(self):
        for o in ("div", "mod"):
            self.has_signal("division", op(o, 1, 0))
            self.has_signal("division", op(o, 0, 0))

    def test_range_at_both_bounds(self):
        self.is_value(plus(G - 1, 1), G)
        self.is_value(op("-", -G + 1, 1), -G)
        self.is_value(op("*", G, -1), -G)
        self.is_value(op("div", -G, -1), G)
        self.is_value(op("mod", G, G), 0)
        self.is_value(plus(G, -G), 0)
        for e in (plus(G, 1), op("-", -G, 1), op("*", G, 2), op("*", -G, G), op("-", 1, -G)):
            self.has_signal("range", e)
        # Also where it comes back.
        self.has_signal("range", op("-", plus(G, 1), 1))


class OrderTest(ValueTest):
    """Each part is evaluated once, from left to right, or not at all."""

    def drawn(self, e, kind="b"):
        """How many numbers the evaluation of e takes."""
        before = self.store.following("s")
        self.value_of(e, kind)
        return self.store.following("s") - before

    def number_is(self, n):
        return equal(("number", "s"), n)

    def test_left_to_right(self):
        e = op("-", op("*", ("number", "s"), 100), ("number", "s"))
        self.is_value(e, 98)
        self.is_value(("case", op("<", ("number", "s"), ("number", "s")), ("number", "s"), value(0)), 5)

    def test_second_part_of_and_and_or(self):
        for first in TRUTHS:
            drawn = self.drawn(op("and", value(first), self.number_is(0)))
            self.assertEqual(drawn, 0 if first is False else 1)
            drawn = self.drawn(op("or", value(first), self.number_is(0)))
            self.assertEqual(drawn, 0 if first is True else 1)
        self.is_value(op("and", False, equal(op("div", 1, 0), 1)), False)
        self.is_value(op("or", True, equal(op("div", 1, 0), 1)), True)
        self.has_signal("division", op("and", None, equal(op("div", 1, 0), 1)), "b")
        self.has_signal("division", op("or", None, equal(op("div", 1, 0), 1)), "b")

    def test_part_of_case_that_is_taken(self):
        wrong = op("div", 1, 0)
        self.is_value(("case", TRUE, value(1), wrong), 1)
        self.is_value(("case", FALSE, wrong, value(1)), 1)
        self.is_value(("case", NULL, wrong, value(1)), 1)
        self.has_signal("division", ("case", equal(wrong, 1), value(1), value(1)))

    def test_both_parts_where_one_is_null(self):
        self.assertEqual(self.drawn(op("=", None, ("number", "s"))), 1)
        self.assertEqual(self.drawn(op("=", ("number", "s"), None)), 1)
        self.has_signal("division", plus(None, op("div", 1, 0)))

    def test_a_number_that_is_taken_stays_taken(self):
        self.has_signal("division", plus(("number", "s"), op("div", ("number", "s"), 0)))
        self.assertEqual(self.store.following("s"), 3)
        self.assertEqual(self.store.journal, (("number", "s", 1), ("number", "s", 2)))


class OverRowsTest(ValueTest):
    def test_nothing(self):
        self.is_value(("count", "r", TRUE), 0)
        self.is_null(("sum", "r", col("a"), TRUE))
        self.is_null(("least", "r", col("a"), TRUE))
        self.is_null(("most", "r", col("w"), TRUE), "t")

    def test_rows_for_which_c_is_true(self):
        self.put_rows((1, "b", True), (5, "a", None), (None, "c", True), (3, None, False), (4, "B", True))
        self.is_value(("count", "r", TRUE), 5)
        self.is_value(("count", "r", col("b")), 3)
        self.is_value(("count", "r", NULL), 0)
        self.is_value(("sum", "r", col("a"), TRUE), 13)
        self.is_value(("sum", "r", col("a"), col("b")), 5)
        self.is_value(("least", "r", col("a"), TRUE), 1)
        self.is_value(("most", "r", col("a"), col("b")), 4)
        self.is_value(("least", "r", col("w"), TRUE), "B")
        self.is_value(("most", "r", col("w"), TRUE), "c")
        self.is_null(("sum", "r", col("a"), ("null", col("a"))))
        self.is_null(("most", "r", NULL, TRUE), "t")
        self.is_null(("sum", "r", NULL, TRUE))

    def test_views(self):
        self.put_rows((1, "a", True), (2, "b", True), (None, "c", True), (3, "d", True))
        self.is_value(("count", "v", TRUE), 2)
        self.is_value(("sum", "v", col("n"), ("not", equal(col("w"), "b"))), 3)
        self.is_value(("least", "v", col("w"), TRUE), "b")

    def test_columns_within_are_of_this_table_alone(self):
        self.put_rows((1, "a", True), (2, "b", True), (3, "c", True))
        less = ("count", "r", op("<", col("a"), 3))
        self.assertEqual(self.store.change("r", (("a", less),), op("<", 1, col("a"))), 2)
        self.has_rows(self.store, "r", (1, "a", True), (2, "b", True), (2, "c", True))
        nested = ("sum", "r", ("count", "r", op("<", col("a"), 2)), equal(col("a"), 2))
        self.is_value(nested, 2)
        with self.assertRaises(BadTree):
            self.store.change("r", sets(a=("count", "x", equal(col("a"), 1))), TRUE)

    def test_order_and_how_often(self):
        self.put_rows((5, "a", True), (6, "b", False), (7, "c", True))
        # For each row the condition first; the other part only where it is True.
        e = ("sum", "r", ("number", "s"), op("and", op("<", 0, ("number", "s")), col("b")))
        self.is_value(e, 2 + 5)
        self.assertEqual(self.store.following("s"), 6)

    def test_a_sum_that_leaves_the_range_and_comes_back(self):
        self.put_rows((G, "a", True), (-5, "b", True), (1, "c", True))
        self.is_value(("sum", "r", col("a"), TRUE), G - 4)
        self.put_rows((4, "d", True), (1, "e", False), (-1, "f", True))
        self.has_signal("range", ("sum", "r", col("a"), TRUE))
        self.is_value(("sum", "r", col("a"), col("b")), G - 1)

    def test_a_sum_ends_at_the_row_that_leaves_the_range(self):
        self.put_rows((G, "a", True), (1, "b", True), (1, "c", True))
        e = ("sum", "r", col("a"), op("<", 0, ("number", "s")))
        self.has_signal("range", e)
        self.assertEqual(self.store.following("s"), 3)

    def test_rows_of_a_view_are_found_first(self):
        store = begun(("sequence", ("s", 1, 1)), ("table", table("r", "a")), ("table", table("x", "i")),
                      ("view", view("v", "r", ("a",), equal(op("div", 6, col("a")), 3))))
        for a in (2, 2, 0):
            store.put("r", sets(a=value(a)))
        e = ("count", "v", op("<", 0, ("number", "s")))
        self.signals("division", (), store.put, "x", sets(i=e))
        self.assertEqual(store.following("s"), 1)
        self.signals("division", (), lambda: list(store.rows("v")))
        store.take("r", equal(col("a"), 0))
        store.put("x", sets(i=e))
        self.assertEqual(store.following("s"), 3)

    def test_inner_conditions_go_first(self):
        wrong = equal(op("div", 6, col("a")), 3)
        store = begun(
            ("table", table("r", "a")), ("view", view("v", "r", ("a",), ("not", equal(col("a"), 0)))),
            ("view", view("w", "v", ("a",), wrong)))
        store.put("r", sets(a=0))
        store.put("r", sets(a=2))
        store.put("r", sets(a=3))
        store.put("r", sets(a=NULL))
        self.assertEqual(list(store.rows("w")), [(1, (2,))])

    def test_as_they_were_before_the_statement(self):
        self.put_rows((1, "a", True), (2, "b", True), (3, "c", True))
        total = ("sum", "r", col("a"), TRUE)
        self.store.change("r", sets(a=plus(col("a"), total)), equal(("count", "r", TRUE), 3))
        self.has_rows(self.store, "r", (7, "a", True), (8, "b", True), (9, "c", True))
        self.assertEqual(self.store.take("r", equal(("count", "r", TRUE), 3)), 3)


class TrueBesideOneTest(ValueTest):
    def test_kinds_of_values_stay(self):
        self.store.put("x", sets(i=1, b=True))
        row = list(self.store.rows("x"))[-1][1]
        self.assertEqual([type(v) for v in row], [int, type(None), bool])
        for e, path in ((equal(1, True), (0, 0, 1, 3)), (equal(True, 0), (0, 0, 1, 3))):
            self.fails(BadTree, (path, "kind"), self.store.put, "x", (("b", e),))
        self.fails(BadTree, ((0, 0, 1), "kind"), self.store.put, "x", sets(i=True))
        self.fails(BadTree, ((0, 0, 1), "kind"), self.store.put, "x", sets(b=1))


class CallTest(ValueTest):
    def setUp(self):
        ValueTest.setUp(self)
        both = (("a", "int", "in"), ("b", "int", "in"))
        self.store.make(*programs(
            function("minus", ("return", op("-", var("a"), var("b"))), params=both),
            function("one", ("return", value(1))),
            function("nothing", ("return", NULL), kind="text"),
            function("wide", ("return", op("*", var("a"), var("b"))), params=both)))

    def call(self, word, *args):
        return ("call", word, tuple(value(arg) if not isinstance(arg, tuple) else arg for arg in args))

    def test_calls(self):
        self.is_value(self.call("one"), 1)
        self.is_value(self.call("minus", 5, 3), 2)
        self.is_null(self.call("minus", 5, None))
        self.is_null(self.call("nothing"), "t")
        self.is_value(self.call("minus", self.call("minus", 9, 2), self.call("one")), 6)
        self.is_value(self.call("minus", ("number", "s"), ("number", "s")), -1)

    def test_calls_within_what_goes_through_rows(self):
        self.put_rows((1, "a", True), (2, "b", True), (3, "c", True))
        inner = ("sum", "r", self.call("minus", col("a"), self.call("one")),
                 op("<", self.call("one"), col("a")))
        self.is_value(inner, 3)
        self.store.change("r", sets(a=self.call("minus", col("a"), inner)),
                          equal(col("a"), plus(self.call("one"), 1)))
        self.has_rows(self.store, "r", (1, "a", True), (-1, "b", True), (3, "c", True))
        self.is_value(op("and", FALSE, equal(self.call("wide", G, G), 1)), False)

    def test_signals_in_functions(self):
        error = self.raised(self.store.put, "x", sets(i=self.call("wide", G, G)))
        self.assertEqual(
            (error.word, error.details, error.program, error.place, error.stack),
            ("range", (), "wide", (0, 0), (("", ()),)))


class DefaultTest(StoreTest):
    def test_defaults(self):
        e = plus(op("*", ("number", "s"), 10), ("number", "s"))
        t = table("t", column("a", default=e), "b", column("c", default=("number", "s")),
                  column("d", default=("case", op("<", ("number", "s"), 3), ("number", "s"), NULL)))
        store = begun(("sequence", ("s", 1, 1)), ("table", t))
        store.put("t", ())
        self.assertEqual(store.row("t", 0), (12, None, 3, None))
        self.assertEqual(store.following("s"), 5)
        # The sets of a row go first, then the defaults in the order of the columns.
        store.put("t", sets(c=("number", "s"), b=("number", "s")))
        self.assertEqual(store.row("t", 1), (78, 6, 5, None))
        # Both change only what they are told to.
        store.change("t", sets(b=0), TRUE)
        self.assertEqual(store.row("t", 1), (78, 0, 5, None))

    def test_fill(self):
        t = table("t", "a", column("n", default=("number", "s")))
        store = begun(("sequence", ("s", 1, 1)), ("table", t), ("table", table("u", "a")))
        for a in (3, None, 4):
            store.put("u", sets(a=value(a)))
        c = op("and", op("<", 0, ("number", "s")), op("<", 0, col("a")))
        store.fill("t", sets(a=plus(col("a"), ("number", "s"))), "u", c)
        self.has_rows(store, "t", (3 + 2, 3), (4 + 6, 7))

    def test_signals(self):
        t = table("t", column("a", default=op("div", 1, 0)), column("b", default=("number", "s")))
        store = begun(("sequence", ("s", 10 ** 30, 1)), ("table", t))
        self.signals("division", (), store.put, "t", ())
        self.assertEqual(store.put("t", sets(a=1)), 1)
        self.signals("range", (), store.put, "t", sets(a=1))
        self.assertEqual(store.put("t", sets(a=1, b=1)), 1)


class DeepTest(StoreTest):
    def test_thirty_deep_and_two_thousand_parts(self):
        t = table("t", column("b", "truth"))
        store = begun(("table", t))
        e = FALSE
        for _ in range(28):
            e = ("not", e)
        self.assertEqual(store.put("t", (("b", e),)), 1)
        self.assertEqual(store.row("t", 0), (False,))
        self.assertEqual(store.take("t", ("not", e[1])), 0)
        self.assertEqual(store.take("t", ("not", ("not", ("not", e[1][1][1])))), 0)
        self.fails(BadTree, ((0, 0, 1), "form"), store.put, "t", (("b", ("not", e)),))
        self.fails(BadTree, ((1,), "form"), store.take, "t", ("not", e))
        # A comparison has 9 parts, an operation 3 beside its own parts.
        wide = [equal(k, k) for k in range(167)]
        self.fails(BadTree, ((1,), "form"), store.take, "t", balanced(wide))
        self.assertEqual(store.take("t", balanced(wide[:166])), 1)


def balanced(es):
    if len(es) == 1:
        return es[0]
    half = len(es) // 2
    return op("and", balanced(es[:half]), balanced(es[half:]))
