"""Points 20, 27, 32, 33 and 34: the catalogue, making and dropping, sequences."""

from deedstore.errors import BadThing, InTransaction, Known, NoTransaction, Unknown, Used
from deedstore.stores import Store
from tests.build import (
    NULL, TRUE, StoreTest, begun, col, column, equal, function, op, procedure, programs, put,
    table, tables, trigger, unchanged, value, view,
)
from tests.helpers import nested

T = table("t", "a")
KEYED = table("k", column("a"), column("b", "text"), keys=(("a", "b"), ("b",)))


def reference(word="r", columns=("a",), to="k", act="keep", late=False):
    return (word, columns, to, act, late)


class FormTest(StoreTest):
    def is_no_form(self, pair, word):
        store = begun(("table", table("there", "a")))
        before = unchanged(store)
        self.fails(BadThing, ("form", word), store.make, pair)
        self.fails(BadThing, ("form", word), store.make, ("table", T), pair, 7)
        self.fails(BadThing, ("form", None), store.make, 7, pair)
        self.assertEqual(unchanged(store), before)

    def test_no_pairs(self):
        for x in (None, 5, "t", "ab", True, (), ("table",), ("table", T, T), ["table", T], {}, [T]):
            self.is_no_form(x, None)

    def test_other_kinds(self):
        for kind in ("", "Table", "tables", "sequence", None, 1, True, (), [], {}, ("table",)):
            self.is_no_form((kind, T), "t")
        self.is_no_form(("sequence", ("s", 1, 1)), "s")
        self.is_no_form(("procedure", procedure("p")), None)

    def test_the_word(self):
        self.is_no_form(("table", None), None)
        self.is_no_form(("table", "t"), None)
        self.is_no_form(("table", ["t"]), None)
        self.is_no_form(("table", ()), None)
        self.is_no_form(("table", ("t",)), "t")
        self.is_no_form(("table", ("T",)), None)
        self.is_no_form(("table", (1, "t")), None)
        self.is_no_form(("table", ("abcdefghi", 1)), None)
        self.is_no_form(("view", ("v", "t")), "v")
        self.is_no_form(("table", ("T", *T[1:])), None)
        self.is_no_form(("view", ("V", *view("v", "t", ("a",))[1:])), None)
        # Things of another kind than is said.
        self.is_no_form(("table", view("v", "t", ("a",))), "v")
        self.is_no_form(("view", T), "t")
        self.is_no_form(("program", T), None)
        self.is_no_form(("table", procedure("p")), None)
        self.is_no_form(("program", ("procedure",)), None)
        self.is_no_form(("program", ("procedure", "p")), "p")
        self.is_no_form(("program", ("x", "p", 1)), "p")
        self.is_no_form(("program", ("procedure", "P", (), ())), None)
        self.is_no_form(("program", ("procedure", ["p"])), None)
        self.is_no_form(("procedure", ("procedure", "p")), None)

    def test_tables(self):
        right = ("a", "int", True, NULL)
        for columns in (
            None, (), [], [right], (right, None), (list(right),), (right[:3],), (right + (1,),),
            (("A",) + right[1:],), (("a", "Int", True, NULL),), (("a", None, True, NULL),),
            (("a", "int", 1, NULL),), (("a", "int", None, NULL),), (("a", "int", True, None),),
            (("a", "int", True, 5),), (("a", "int", True, ("value", [])),),
            (("a", ["int"], True, NULL),), (("a", ("row", "t"), True, NULL),),
        ):
            self.is_no_form(("table", ("t", columns, (), (), ())), "t")
        for x in (T[:4], T + ((),), T[:4] + (None,), T[:2] + ([], (), ()), T[:3] + (None, ())):
            self.is_no_form(("table", x), "t")

    def test_defaults(self):
        for e in (
            col("a"), ("var", "a"), ("count", "t", TRUE), ("call", "f", ()), ("field", "r", "a"),
            ("word",), ("told", 0, "int"), op("+", col("a"), 1), ("case", TRUE, 1, 2), ("not",),
        ):
            self.is_no_form(("table", table("t", ("a", "int", True, e))), "t")

    def test_keys_and_checks(self):
        for parts in (((),), ("a",), (("a", 1),), (["a"],), (("a",), ()), (("A",),), 5):
            self.is_no_form(("table", T[:2] + (parts, (), ())), "t")
        for check in (
            None, ("c",), ("c", TRUE, 1), ("C", TRUE), ["c", TRUE], ("c", True), ("c", ("var", "a")),
            ("c", ("count", "t", TRUE)), ("c", ("number", "s")), ("c", equal(("call", "f", ()), 1)),
        ):
            self.is_no_form(("table", T[:3] + ((check,), ())), "t")

    def test_references(self):
        for wrong in (
            None, (), reference()[:4], reference() + (1,), reference(word="R"),
            reference(columns="a"), reference(columns=["a"]), reference(columns=("A",)),
            reference(to=None), reference(act="drop"), reference(act=None), reference(late=0),
            reference(late=None), list(reference()),
        ):
            self.is_no_form(("table", T[:4] + ((wrong,),)), "t")

    def test_views(self):
        right = view("v", "t", ("a",))
        for at, wrongs in (
            (1, (None, 1, "T", ("t",))),
            (2, (None, (), [], [("a", "a")], ("a",), (("a",),), (("a", "b", "c"),), (["a", "a"],), (("a", 1),))),
            (3, (None, True, ("var", "a"), ("count", "t", TRUE), ("number", "s"), ("word",))),
            (4, (None, 0, 1, "yes")),
        ):
            for wrong in wrongs:
                self.is_no_form(("view", right[:at] + (wrong,) + right[at + 1:]), "v")
        self.is_no_form(("view", right[:4]), "v")
        self.is_no_form(("view", right + (1,)), "v")
        self.is_no_form(("view", list(right)), None)

    def test_bounds_of_trees(self):
        deep = TRUE
        for _ in range(26):
            deep = ("not", deep)
        # The table, its columns or checks, and the column or check are one deep each.
        self.assertEqual(Store.of(("table", table("t", "a", checks=(("c", deep[1]),)))).tables, ("t",))
        self.is_no_form(("table", table("t", "a", checks=(("c", ("not", deep)),))), "t")
        many = tuple(column(a + b + c) for a in "abcdefg" for b in "abcdefg" for c in "abcdefg")
        self.assertEqual(len(many), 343)
        # A column has seven parts.
        self.assertEqual(Store.of(("table", table("t", *many[:284]))).tables, ("t",))
        self.is_no_form(("table", table("t", *many[:286])), "t")
        self.is_no_form(("table", nested(100)), None)
        deep = ("not", ("not", deep))
        self.is_no_form(("view", view("v", "t", ("a",), deep)), "v")

    def test_first_wrong_form_goes_ahead_of_all_else(self):
        store = begun(("table", T))
        self.fails(BadThing, ("form", "x"), store.make, ("table", T), ("view", ("x",)), ("table", ()))


class FitTest(StoreTest):
    def does_not_fit(self, reason, word, *things):
        store = begun(("sequence", ("s", 1, 1)), ("table", KEYED), ("view", view("w", "k", ("a",))))
        before = unchanged(store)
        self.fails(BadThing, (reason, word), store.make, *things)
        self.assertEqual(unchanged(store), before)

    def fits(self, *things):
        store = begun(("sequence", ("s", 1, 1)), ("table", KEYED), ("view", view("w", "k", ("a",))))
        store.make(*things)
        self.assertEqual(store.journal, (("make", things),))

    def test_columns(self):
        self.does_not_fit("column", "t", ("table", table("t", "a", "b", "a")))
        self.does_not_fit("column", "t", ("table", table("t", column("a", "int", True, "x"))))
        self.does_not_fit("column", "t", ("table", table("t", column("a", "text", True, 5))))
        self.does_not_fit("column", "t", ("table", table("t", column("a", "int", True, True))))
        self.does_not_fit("column", "t", ("table", table("t", column("a", "truth", True, 1))))
        self.does_not_fit("column", "t", ("table", table("t", column("a", default=op("+", 1, "x")))))
        self.does_not_fit("column", "t", ("table", table("t", column("a", default=("number", "z")))))
        self.does_not_fit("column", "t", ("table", table("t", column("a", default=("number", "k")))))
        self.does_not_fit("column", "t", ("table", table("t", column("a", "text", True, ("number", "s")))))
        self.fits(("table", table("t", column("a", default=("number", "s")), column("b", "truth", False))))

    def test_keys(self):
        self.does_not_fit("key", "t", ("table", table("t", "a", keys=(("a", "a"),))))
        self.does_not_fit("key", "t", ("table", table("t", "a", keys=(("a",), ("z",)))))
        self.fits(("table", table("t", "a", "b", keys=(("a",), ("a",), ("b", "a")))))

    def test_checks(self):
        self.does_not_fit("check", "t", ("table", table("t", "a", checks=(("c", TRUE), ("c", TRUE)))))
        self.does_not_fit("check", "t", ("table", table("t", "a", checks=(("c", equal(col("z"), 1)),))))
        self.does_not_fit("check", "t", ("table", table("t", "a", checks=(("c", col("a")),))))
        self.does_not_fit("check", "t", ("table", table("t", "a", checks=(("c", value(1)),))))
        self.does_not_fit("check", "t", ("table", table("t", "a", checks=(("c", equal(col("a"), "x")),))))
        self.fits(("table", table("t", "a", checks=(("c", NULL), ("d", ("null", col("a")))))))

    def test_references(self):
        b = column("b", "text")
        for wrong in (
            reference(columns=("a",)), reference(columns=()), reference(columns=("b", "a")),
            reference(columns=("a", "z")), reference(columns=("a", "a")),
            reference(columns=("a", "b", "b")), reference(columns=("a", "b"), to="z"),
            reference(columns=("a", "b"), to="w"), reference(columns=("a", "b"), to="s"),
        ):
            self.does_not_fit("reference", "t", ("table", table("t", "a", b, references=(wrong,))))
        right = reference(columns=("a", "b"))
        self.fits(("table", table("t", "a", b, references=(right,))))
        self.does_not_fit("reference", "t", ("table", table("t", "a", b, references=(right, right))))
        to_new = reference(columns=("a",), to="u")
        self.does_not_fit(
            "reference", "t", ("table", table("t", "a", references=(to_new,))), ("table", table("u", "a")))
        self.fits(("table", table("t", "a", references=(to_new,))), ("table", table("u", "a", keys=(("a",),))))
        self.fits(("table", table("t", "a", keys=(("a",),), references=(reference(to="t"),))))

    def test_act_null_with_a_column_that_may_not_be_null(self):
        parts = (column("a"), column("b", "text", False))
        for act in ("keep", "cascade"):
            right = reference(columns=("a", "b"), act=act)
            self.fits(("table", table("t", *parts, references=(right,))))
        wrong = reference(columns=("a", "b"), act="null", late=True)
        self.does_not_fit("reference", "t", ("table", table("t", *parts, references=(wrong,))))

    def test_views(self):
        for wrong in (
            view("v", "z", ("a",)), view("v", "s", ("a",)), view("v", "v", ("a",)),
            view("v", "k", ("a", "z")), view("v", "w", ("b",)), view("v", "k", ("a", ("a", "b"))),
            view("v", "k", ("a", ("b", "a"))), view("v", "k", ("a",), col("a")),
            view("v", "k", ("a",), equal(col("z"), 1)), view("v", "k", ("a",), equal(col("b"), 1)),
            view("v", "w", ("a",), equal(col("b"), "x")), view("v", "k", ("a",), value(1)),
        ):
            self.does_not_fit("view", "v", ("view", wrong))
        self.fits(("view", view("v", "k", (("x", "b"), "a"), equal(col("b"), "x"), True)))
        self.fits(("view", view("v", "w", (("x", "a"),), NULL)))

    def test_rounds_of_views(self):
        v, u = view("v", "u", ("a",)), view("u", "v", ("a",))
        self.does_not_fit("view", "v", ("view", v), ("view", u))
        self.does_not_fit("view", "u", ("view", u), ("view", v))
        self.does_not_fit("view", "v", ("view", view("x", "k", ("a",))), ("view", v), ("view", u))
        # A view over views that go round does not fit either.
        self.does_not_fit("view", "x", ("view", view("x", "u", ("a",))), ("view", v), ("view", u))

    def test_a_view_over_one_that_does_not_fit(self):
        v, u = ("view", view("v", "u", ("a",))), ("view", view("u", "z", ("a",)))
        self.does_not_fit("view", "u", v, u)
        self.does_not_fit("view", "u", u, v)
        v = ("view", view("v", "u", ("a",), equal(col("a"), 1)))
        self.does_not_fit("view", "v", v, u)

    def test_any_order(self):
        things = (
            ("program", procedure("p")), ("view", view("v", "u", ("x",), equal(col("x"), 1))),
            ("view", view("u", "t", (("x", "a"),))), ("table", table("t", "a", references=(
                reference(to="y"),))), ("table", table("y", "a", keys=(("a",),))),
        )
        self.fits(*things)
        self.fits(*reversed(things))

    def test_reasons_in_order(self):
        bad_key = table("x", "a", "a", keys=(("z",),), checks=(("c", value(1)),))
        self.does_not_fit("column", "x", ("table", bad_key))
        bad_key = table("x", "a", keys=(("z",),), checks=(("c", value(1)),))
        self.does_not_fit("key", "x", ("table", bad_key))
        bad_check = table("x", "a", checks=(("c", value(1)),), references=(reference(to="z"),))
        self.does_not_fit("check", "x", ("table", bad_check))

    def test_tables_first_then_views_as_they_are_given(self):
        bad_view = ("view", view("v", "z", ("a",)))
        bad, worse = ("table", table("x", "a", checks=(("c", value(1)),))), ("table", table("y", "a", "a"))
        self.does_not_fit("check", "x", bad_view, bad, worse)
        self.does_not_fit("column", "y", bad_view, worse, bad)
        self.does_not_fit("view", "v", bad_view, ("view", view("u", "z", ("a",))))

    def test_programs_name_what_they_want(self):
        self.fits(("program", procedure("p", put("zz", a=1))))
        self.fits(("program", trigger("p", "zz", "before", "put")))


class MakeTest(StoreTest):
    def test_no_transaction(self):
        store = Store()
        self.fails(NoTransaction, (), store.make)
        self.fails(NoTransaction, (), store.make, 5)
        self.fails(NoTransaction, (), store.drop, "t")
        self.fails(NoTransaction, (), store.drop)

    def test_known(self):
        store = begun(("sequence", ("s", 1, 1)), ("table", T), ("view", view("v", "t", ("a",))),
                      ("program", procedure("p")))
        for word in "stvp":
            self.fails(Known, (word,), store.make, ("table", table(word, "a")))
            self.fails(Known, (word,), store.make, ("view", view(word, "z", ("a",))))
            self.fails(Known, (word,), store.make, ("program", procedure(word)))
        x = ("table", table("x", "a"))
        self.fails(Known, ("x",), store.make, x, ("program", procedure("x")))
        self.fails(Known, ("t",), store.make, x, ("table", T), x)
        self.fails(Known, ("x",), store.make, x, x, ("table", T))
        # Ahead of what does not fit.
        self.fails(Known, ("t",), store.make, ("table", table("y", "a", "a")), ("table", T))

    def test_making(self):
        store = begun()
        self.assertIsNone(store.make())
        self.assertEqual(store.journal, ())
        v = view("v", "t", ("a",))
        p = procedure("p")
        self.assertIsNone(store.make(("view", v), ("program", p), ("table", T)))
        self.assertEqual(store.journal, (("make", (("view", v), ("program", p), ("table", T))),))
        self.assertEqual((store.tables, store.views, store.programs), (("t",), ("v",), ("p",)))
        self.assertEqual((store.thing("t"), store.thing("v"), store.thing("p")), (T, v, p))

    def test_words_in_order(self):
        store = begun(("sequence", ("b", 1, 1)), ("sequence", ("a", 1, 1)), *tables(
            table("tb", "a"), table("ta", "a"), table("t", "a")), *programs(procedure("pb"), procedure("p")),
            ("view", view("vb", "t", ("a",))), ("view", view("va", "t", ("a",))))
        self.assertEqual(store.sequences, ("a", "b"))
        self.assertEqual(store.tables, ("t", "ta", "tb"))
        self.assertEqual(store.views, ("va", "vb"))
        self.assertEqual(store.programs, ("p", "pb"))

    def test_thing(self):
        store = Store.of(("table", T), ("sequence", ("s", 1, 2)))
        self.assertEqual(store.thing(word="t"), T)
        self.assertEqual(store.thing("s"), ("s", 1, 2))
        for x in ("z", "", None, 5, [], {}, ("t",), True):
            self.fails(Unknown, (x,), store.thing, x)

    def test_thirty_things(self):
        made = [("table", table("t" + a, "a", keys=(("a",),))) for a in "abcdefghij"]
        made += [("view", view("v" + a, "v" + chr(ord(a) + 1) if a < "j" else "ta", ("a",))) for a in "abcdefghij"]
        made += [("program", procedure("p" + a)) for a in "abcdefghij"]
        store = begun(*made)
        store.put("va", (("a", value(7)),))
        self.assertEqual(list(store.rows("va")), [(0, (7,))])
        self.assertEqual(list(store.rows("ta")), [(0, (7,))])


class DropTest(StoreTest):
    def setUp(self):
        self.store = begun(
            ("sequence", ("s", 1, 1)), ("table", KEYED),
            ("table", table("t", "a", column("b", "text"), references=(reference(columns=("a", "b")),))),
            ("view", view("v", "t", ("a",))), ("view", view("aa", "v", ("a",))),
            ("program", procedure("p", put("k", a=1))), ("program", function("f", ("return", value(1)))))

    def test_unknown(self):
        for x in ("z", "s", "", None, 5, [], {}, True, ("t",)):
            self.fails(Unknown, (x,), self.store.drop, x)
            self.fails(Unknown, (x,), self.store.drop, "t", x)
        self.fails(Unknown, ("t",), self.store.drop, "t", "v", "t", "z")
        self.assertEqual(self.store.journal, ())

    def test_used(self):
        self.fails(Used, ("t",), self.store.drop, "k")
        self.fails(Used, ("v",), self.store.drop, "t")
        self.fails(Used, ("v",), self.store.drop, "k", "t", "p")
        self.fails(Used, ("aa",), self.store.drop, "t", "v")
        self.fails(Used, ("aa",), self.store.drop, "v")
        self.assertEqual(self.store.journal, ())

    def test_first_by_words_of_tables_and_views_together(self):
        store = begun(*tables(table("k", "a", keys=(("a",),)), table("m", "a", references=(reference(),))),
                      ("view", view("l", "k", ("a",))))
        self.fails(Used, ("l",), store.drop, "k")

    def test_dropping(self):
        self.assertIsNone(self.store.drop())
        self.assertEqual(self.store.journal, ())
        self.assertIsNone(self.store.drop("p", "aa"))
        self.assertEqual(self.store.journal, (("drop", ("p", "aa")),))
        self.store.drop("v", "t")
        self.store.drop("k", "f")
        self.assertEqual((self.store.tables, self.store.views, self.store.programs), ((), (), ()))
        self.fails(Unknown, ("k",), self.store.thing, "k")

    def test_its_own_reference_is_no_use(self):
        own = table("o", "a", keys=(("a",),), references=(reference(to="o"),))
        store = begun(("table", own))
        store.drop("o")
        self.assertEqual(store.tables, ())

    def test_rows_are_taken_first(self):
        store = begun(*tables(table("a", "x"), table("b", "x"), table("c", "x")), ("program", trigger(
            "g", "b", "before", "take", ("skip",))))
        for word in "bacba":
            store.put(word, ())
        store.rollback()
        store.begin()
        for word in "bacba":
            store.put(word, ())
        puts = len(store.journal)
        store.drop("b", "g", "a")
        self.assertEqual(store.journal[puts:], (
            ("take", "b", 5), ("take", "b", 8), ("take", "a", 6), ("take", "a", 9),
            ("drop", ("b", "g", "a"))))
        self.assertEqual(store.tables, ("c",))
        self.fails(Unknown, ("a",), lambda: list(store.rows("a")))
        self.assertIsNone(store.row("a", 6))


class SequenceTest(StoreTest):
    def test_adding(self):
        store = Store()
        self.assertIsNone(store.add_sequence(thing=("s", -5, -3)))
        self.assertEqual(store.sequences, ("s",))
        self.assertEqual(store.following(sequence="s"), -5)
        store.begin()
        self.assertEqual([store.number("s"), store.number(sequence="s")], [-5, -8])
        self.assertEqual(store.journal, (("number", "s", -5), ("number", "s", -8)))

    def test_errors(self):
        store = Store.of(("table", T), ("sequence", ("s", 1, 1)))
        for x in (None, 5, "s", (), [], {}, ["s", 1, 1], True):
            self.fails(BadThing, ("form", None), store.add_sequence, x)
        for x in (("z",), ("z", 1), ("z", 1, 1, 1), ("z", 1, 0), ("z", None, 1), ("z", 1, None),
                  ("z", True, 1), ("z", 1, True), ("z", "1", 1), ("z", 10 ** 30 + 1, 1),
                  ("z", 1, -(10 ** 30) - 1), ("z", [], 1)):
            self.fails(BadThing, ("form", "z"), store.add_sequence, x)
        self.fails(BadThing, ("form", None), store.add_sequence, ("Z", 1, 1))
        self.fails(Known, ("s",), store.add_sequence, ("s", 1, 1))
        self.fails(Known, ("t",), store.add_sequence, ("t", 1, 1))
        store.begin()
        self.fails(InTransaction, (), store.add_sequence, None)
        self.fails(InTransaction, (), store.add_sequence, ("z", 1, 1))

    def test_bounds(self):
        store = Store.of(("sequence", ("s", 10 ** 30 - 1, 1)), ("sequence", ("d", -(10 ** 30), -(10 ** 30))))
        store.begin()
        self.assertEqual([store.number("s"), store.number("s")], [10 ** 30 - 1, 10 ** 30])
        self.signals("range", (), store.number, "s")
        self.signals("range", (), store.number, "s")
        self.assertEqual(store.following("s"), 10 ** 30 + 1)
        self.assertEqual(store.number("d"), -(10 ** 30))
        self.signals("range", (), store.number, "d")
        self.assertEqual(len(store.journal), 3)

    def test_numbers_are_not_given_again(self):
        store = Store.of(("sequence", ("s", 1, 1)))
        self.fails(NoTransaction, (), store.number, "s")
        self.fails(NoTransaction, (), store.number, "z")
        store.begin()
        k = store.mark()
        self.assertEqual(store.number("s"), 1)
        store.undo(k)
        self.assertEqual(store.number("s"), 2)
        store.rollback()
        self.assertEqual(store.following("s"), 3)
        for x in ("z", None, [], 5):
            self.fails(Unknown, (x,), store.following, x)
        store.begin()
        for x in ("z", None, [], 5):
            self.fails(Unknown, (x,), store.number, x)

    def test_sequences_stay(self):
        store = Store()
        store.add_sequence(("s", 1, 1))
        store.begin()
        store.rollback()
        self.assertEqual(store.sequences, ("s",))


class OfTest(StoreTest):
    def test_sequences_first(self):
        t = table("t", column("a", default=("number", "s")))
        store = Store.of(("table", t), ("sequence", ("s", 1, 1)))
        self.assertEqual((store.tables, store.sequences, store.commits, store.journal), (("t",), ("s",), 1, ()))
        self.fails(BadThing, ("form", "s"), Store.of, ("table", ()), ("sequence", ("s",)))
        self.fails(BadThing, ("form", None), Store.of, ("table", T), None)
        self.fails(Known, ("s",), Store.of, ("sequence", ("s", 1, 1)), ("table", table("s", "a")))

    def test_what_is_no_pair(self):
        s = ("s", 1, 1)
        for x in (["sequence", s], ("sequence",), ("sequence", s, 1), "sequence", ("sequence",) * 3):
            self.fails(BadThing, ("form", None), Store.of, x)
        self.fails(BadThing, ("form", None), Store.of, ("sequence", None))

    def test_nothing(self):
        self.assertEqual(Store.of().commits, 1)
        self.assertEqual(Store().commits, 0)
        self.assertIs(type(Store.of()), Store)
        self.assertEqual(Store.MOST, 100000)


class EqualTest(StoreTest):
    def test_order_means_nothing(self):
        things = (("table", T), ("table", KEYED), ("view", view("v", "t", ("a",))), ("sequence", ("s", 1, 1)))
        self.assertTrue(Store.of(*things) == Store.of(*reversed(things)))
        self.assertFalse(Store.of(*things) != Store.of(*reversed(things)))

    def test_things(self):
        self.assertTrue(Store.of() == Store())
        self.assertFalse(Store.of(("table", T)) == Store())
        self.assertFalse(Store.of(("table", T)) == Store.of(("table", table("t", "b"))))
        self.assertFalse(Store.of(("sequence", ("s", 1, 1))) == Store.of(("sequence", ("s", 1, 2))))
        self.assertFalse(Store.of(("sequence", ("s", 1, 1))) == Store())

    def test_true_is_no_integer(self):
        first = procedure("p", ("raise", "x", (value(1), value(True))))
        second = procedure("p", ("raise", "x", (value(True), value(1))))
        self.assertEqual(first, second)
        self.assertFalse(Store.of(("program", first)) == Store.of(("program", second)))

    def test_rows_and_their_numbers(self):
        a, b = begun(("table", T)), begun(("table", T))
        a.put("t", ())
        self.assertFalse(a == b)
        b.put("t", ())
        self.assertTrue(a == b)
        a.put("t", ())
        a.take("t", TRUE)
        a.put("t", ())
        b.take("t", TRUE)
        self.assertFalse(a == b)
        b.put("t", ())
        self.assertFalse(a == b)

    def test_sequences_numbers_and_transactions_mean_nothing(self):
        a, b = Store.of(("sequence", ("s", 1, 1))), Store.of(("sequence", ("s", 1, 1)))
        a.begin()
        a.number("s")
        self.assertTrue(a == b)

    def test_other_values(self):
        for x in (None, 0, "", (), [], {}, Store, object()):
            self.assertFalse(Store() == x)
            self.assertFalse(x == Store())


class CopyTest(StoreTest):
    def test_a_copy_goes_its_own_way(self):
        store = begun(("sequence", ("s", 1, 1)), ("table", T))
        store.put("t", (("a", ("number", "s")),))
        store.mark()
        store.put("t", ())
        other = store.copy()
        self.assertIs(type(other), Store)
        self.assertEqual(unchanged(other), unchanged(store))
        self.assertTrue(other == store)
        before = unchanged(store)
        other.undo(0)
        other.put("t", (("a", ("number", "s")),))
        other.make(("table", table("u", "a")))
        other.put("u", ())
        other.commit()
        self.assertEqual(unchanged(store), before)
        self.assertEqual(list(other.rows("t")), [(0, (1,)), (2, (2,))])
        self.assertEqual(list(other.rows("u")), [(3, (None,))])
        store.rollback()
        self.assertEqual((store.commits, other.commits), (1, 2))

    def test_a_copy_of_a_store_without_transaction(self):
        store = Store.of(("table", T))
        other = store.copy()
        other.begin()
        self.fails(NoTransaction, (), store.put, "t", ())
