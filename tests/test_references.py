"""Points 22, 25.5, 25.7 and 33: references, their acts, and late ones."""

from deedstore.errors import NoTransaction
from deedstore.machines import run
from tests.build import (
    NULL, TRUE, StoreTest, begun, block, col, column, equal, handler, op, plus, procedure, programs, put,
    set_, sets, table, tables, trigger, unchanged, value,
)


def parent(**more):
    return table("p", column("id"), "x", keys=(("id",), ("x",)), **more)


def child(act, late=False, word="c", may=True):
    columns = (column("of", "int", may), column("n"))
    return table(word, *columns, references=(("to", ("of",), "p", act, late),))


class ActTest(StoreTest):
    def store_with(self, *children):
        store = begun(*tables(parent(), *children))
        for k in (1, 2, 3):
            store.put("p", sets(id=k))
        for made in children:
            for n, of in enumerate((1, 2, 2, None)):
                store.put(made[0], sets(of=value(of), n=n))
        return store

    def test_putting_and_changing_rows_that_refer(self):
        for act in ("keep", "cascade", "null"):
            store = self.store_with(child(act))
            before = unchanged(store)
            self.signals("refer", ("c", "to"), store.put, "c", sets(of=9))
            self.signals("refer", ("c", "to"), store.change, "c", sets(of=9), equal(col("n"), 0))
            self.assertEqual(unchanged(store), before)
            self.assertEqual(store.change("c", sets(of=3), TRUE), 4)

    def test_keep(self):
        store = self.store_with(child("keep"))
        before = unchanged(store)
        self.signals("refer", ("c", "to"), store.take, "p", equal(col("id"), 2))
        self.signals("refer", ("c", "to"), store.change, "p", sets(id=9), equal(col("id"), 1))
        self.assertEqual(unchanged(store), before)
        self.assertEqual(store.take("p", equal(col("id"), 3)), 1)
        self.assertEqual(store.change("p", sets(x=plus(col("id"), 5)), TRUE), 2)

    def test_cascade_of_takes(self):
        store = self.store_with(child("cascade"))
        self.assertEqual(store.take("p", op("<", 1, col("id"))), 2)
        self.has_rows(store, "c", (1, 0), (None, 3))
        self.assertEqual(store.journal[-4:], (("take", "p", 1), ("take", "p", 2), ("take", "c", 4), ("take", "c", 5)))

    def test_cascade_of_changes(self):
        store = self.store_with(child("cascade"))
        self.assertEqual(store.change("p", sets(id=op("*", col("id"), 10)), op("<", col("id"), 3)), 2)
        self.has_rows(store, "c", (10, 0), (20, 1), (20, 2), (None, 3))
        self.assertEqual(store.journal[-5:], (
            ("change", "p", 0, (10, None)), ("change", "p", 1, (20, None)),
            ("change", "c", 3, (10, 0)), ("change", "c", 4, (20, 1)), ("change", "c", 5, (20, 2))))

    def test_cascade_of_null(self):
        store = self.store_with(child("cascade"))
        store.change("p", sets(id=NULL), equal(col("id"), 2))
        self.has_rows(store, "c", (1, 0), (None, 1), (None, 2), (None, 3))

    def test_null(self):
        store = self.store_with(child("null"))
        store.take("p", equal(col("id"), 2))
        store.change("p", sets(id=7), equal(col("id"), 1))
        self.has_rows(store, "c", (None, 0), (None, 1), (None, 2), (None, 3))

    def test_only_values_that_have_gone(self):
        store = self.store_with(child("cascade"))
        # 1 and 2 become 2 and 3, 3 becomes 4.
        store.change("p", sets(id=plus(col("id"), 1)), TRUE)
        self.has_rows(store, "c", (2, 0), (2, 1), (2, 2), (None, 3))
        store = self.store_with(child("cascade"))
        store.change("p", sets(id=op("-", 3, col("id"))), op("<", col("id"), 3))
        self.has_rows(store, "c", (1, 0), (2, 1), (2, 2), (None, 3))

    def test_at_its_turn(self):
        # The trigger puts the value back that the take of the second row has made gone.
        again = trigger("again", "c", "after", "change", ("if", (
            (equal(("count", "p", equal(col("id"), 2)), 0), (put("p", id=2),)),), ()))
        store = self.store_with(child("null"))
        store.make(*programs(again))
        store.take("p", op("<", col("id"), 3))
        self.has_rows(store, "c", (None, 0), (2, 1), (2, 2), (None, 3))

    def test_columns_that_may_not_be_null(self):
        store = begun(*tables(parent(), child("cascade", may=False)))
        store.put("p", sets(id=1))
        store.put("c", sets(of=1))
        before = unchanged(store)
        self.signals("null", ("c", "of"), store.change, "p", sets(id=NULL), TRUE)
        self.assertEqual(unchanged(store), before)

    def test_tables_by_words_and_references_in_order(self):
        refer = tuple((word, (word,), "p", "cascade", False) for word in ("b", "a"))
        two = table("two", "a", "b", references=refer)
        store = begun(*tables(two, parent(), child("cascade", word="z"), child("cascade", word="d")))
        store.put("p", sets(id=1))
        store.put("z", sets(of=1))
        store.put("two", sets(a=1))
        store.put("two", sets(b=1))
        store.put("d", sets(of=1))
        before = len(store.journal)
        store.take("p", TRUE)
        self.assertEqual(store.journal[before:], tuple(
            ("take", word, number) for word, number in (("p", 0), ("d", 4), ("two", 3), ("two", 2), ("z", 1))))

    def test_several_columns(self):
        key = table("k", "a", column("b", "text"), keys=(("b", "a"),))
        other = table("o", "x", column("y", "text"), references=(("r", ("y", "x"), "k", "cascade", False),))
        store = begun(*tables(key, other))
        store.put("k", sets(a=1, b="u"))
        store.put("o", sets(x=1, y="u"))
        store.put("o", sets(x=1))
        store.put("o", sets(x=5))
        self.signals("refer", ("o", "r"), store.put, "o", sets(x=2, y="u"))
        store.change("k", sets(a=2, b="v"), TRUE)
        self.has_rows(store, "o", (2, "v"), (1, None), (5, None))
        store.put("k", sets(a=1))
        store.take("k", TRUE)
        self.has_rows(store, "o", (1, None), (5, None))

    def test_rows_with_null_in_the_main_key(self):
        store = self.store_with(child("cascade"))
        store.put("p", ())
        self.assertEqual(store.take("p", ("null", col("id"))), 1)
        self.assertEqual(len(list(store.rows("c"))), 4)


class ChainTest(StoreTest):
    def chain(self, many, act="cascade"):
        """Tables that refer each to the one before, with a row each."""
        words = ["t" + chr(ord("a") + k) for k in range(many)]
        made = [table(words[0], "id", keys=(("id",),))]
        for k in range(1, many):
            made.append(table(words[k], "id", keys=(("id",),), references=(
                ("r", ("id",), words[k - 1], act, False),)))
        store = begun(*tables(*made))
        for word in words:
            store.put(word, sets(id=1))
        return store, words

    def test_chains(self):
        store, words = self.chain(9)
        store.change(words[0], sets(id=5), TRUE)
        for word in words:
            self.has_rows(store, word, (5,))
        store.take(words[0], TRUE)
        for word in words:
            self.has_rows(store, word)

    def test_too_deep(self):
        store, words = self.chain(10)
        before = unchanged(store)
        self.signals("depth", (), store.take, words[0], TRUE)
        self.signals("depth", (), store.change, words[0], sets(id=2), TRUE)
        self.assertEqual(unchanged(store), before)
        store.take(words[9], TRUE)
        self.assertEqual(store.take(words[0], TRUE), 1)

    def test_rings(self):
        a = table("a", "id", keys=(("id",),), references=(("r", ("id",), "b", "cascade", True),))
        b = table("b", "id", keys=(("id",),), references=(("r", ("id",), "a", "cascade", False),))
        store = begun(*tables(a, b))
        store.put("a", sets(id=1))
        store.put("b", sets(id=1))
        store.change("a", sets(id=2), TRUE)
        self.has_rows(store, "a", (2,))
        self.has_rows(store, "b", (2,))
        store.take("b", TRUE)
        self.has_rows(store, "a")

    def test_a_table_that_refers_to_itself(self):
        tree = table("n", "id", "up", keys=(("id",),), references=(("r", ("up",), "n", "cascade", False),))
        store = begun(("table", tree))
        for n, up in ((1, 1), (2, 1), (3, 2), (4, 2), (5, None)):
            store.put("n", sets(id=n, up=value(up)))
        store.change("n", sets(id=10), equal(col("id"), 1))
        self.has_rows(store, "n", (10, 10), (2, 10), (3, 2), (4, 2), (5, None))
        self.assertEqual(store.take("n", equal(col("id"), 10)), 1)
        self.has_rows(store, "n", (5, None))

    def test_cascades_are_statements_of_their_own(self):
        # Null, check and key are looked at, triggers run.
        small = ("small", op("<", col("of"), 5))
        c = table("c", "of", keys=(("of",),), checks=(small,), references=(("to", ("of",), "p", "cascade", False),))
        store = begun(*tables(parent(), c, table("seen", "a", "b")), *programs(trigger(
            "g", "c", "after", "change",
            put("seen", a=("field", "old", "of"), b=("field", "new", "of")))))
        store.put("p", sets(id=1))
        store.put("c", sets(of=1))
        self.signals("check", ("c", "small"), store.change, "p", sets(id=7), TRUE)
        store.change("p", sets(id=2), TRUE)
        self.has_rows(store, "seen", (1, 2))

    def test_a_before_trigger_can_hold_a_cascade_up(self):
        store = begun(*tables(parent(), child("cascade")), *programs(
            trigger("g", "c", "before", "take", ("skip",))))
        store.put("p", sets(id=1))
        store.put("c", sets(of=1))
        self.signals("refer", ("c", "to"), store.take, "p", TRUE)

    def test_old_and_new_row_as_they_were_written(self):
        # The first after-trigger changes the key again; what refers got the first new values.
        store = begun(*tables(parent(), child("cascade"), child("null", word="d")), *programs(
            trigger("g", "c", "after", "change", ("if", (
                (equal(("field", "new", "of"), 2), (
                    ("change", "p", sets(id=3), equal(col("id"), 2), None),)),), ()))))
        store.put("p", sets(id=1))
        store.put("c", sets(of=1))
        store.put("d", sets(of=1))
        store.change("p", sets(id=2), TRUE)
        self.has_rows(store, "p", (3, None))
        self.has_rows(store, "c", (3, None))
        self.has_rows(store, "d", (None, None))


class BehindTest(StoreTest):
    def test_only_behind_the_outermost_statement(self):
        # A trigger puts the row to which the new one refers.
        store = begun(*tables(parent(), child("keep")), *programs(
            trigger("g", "c", "after", "put", put("p", id=("field", "new", "of")))))
        self.assertEqual(store.put("c", sets(of=5)), 1)
        self.has_rows(store, "p", (5, None))
        # And in the other order: the statement of the trigger is not looked at alone.
        store = begun(*tables(parent(), child("keep")), *programs(
            trigger("g", "p", "after", "put", put("c", of=plus(("field", "new", "id"), 1))),
            trigger("h", "p", "after", "put", ("if", ((op("<", ("field", "new", "id"), 6), (
                put("p", id=plus(("field", "new", "id"), 1)),)),), ()))))
        self.signals("refer", ("c", "to"), store.put, "p", sets(id=5))

    def test_the_first_by_tables_references_and_rows(self):
        def of(word, *references):
            return table(word, "a", "b", references=tuple((r, (c,), "p", "keep", False) for r, c in references))

        store = begun(*tables(parent(), of("z", ("r", "a")), of("c", ("y", "b"), ("x", "a"))), *programs(
            trigger("g", "z", "after", "put", put("c", a=7), put("c", b=7))))
        self.signals("refer", ("c", "y"), store.put, "z", sets(a=9))

    def test_late_ones(self):
        store = begun(*tables(parent(), child("keep", True)))
        store.put("c", sets(of=1))
        self.signals("refer", ("c", "to"), store.look)
        self.assertEqual(len(list(store.rows("c"))), 1)
        store.put("p", sets(id=1))
        self.assertIsNone(store.look())
        store.commit()
        store.begin()
        store.take("p", TRUE)
        store.put("p", sets(id=5))
        self.signals("refer", ("c", "to"), store.look)
        self.signals("refer", ("c", "to"), store.commit)
        # It is rolled back.
        self.fails(NoTransaction, (), store.commit)
        self.assertEqual(store.commits, 2)
        self.has_rows(store, "p", (1, None))
        self.assertEqual(store.journal, ())

    def test_look_of_programs(self):
        guard = block(put("c", of=1), ("look",), handlers=(handler("refer", set_("w", ("told", 1, "text"))),))
        p = procedure("look", guard, put("p", id=1), put("c", of=1), ("look",), params=(("w", "text", "out"),))
        store = begun(*tables(parent(), child("keep", True)), *programs(p, procedure("wrong", put("c", of=7), ("look",))))
        self.assertEqual(run(store, "look").results, ("to",))
        self.has_rows(store, "c", (1, None))
        error = self.raised(run, store, "wrong")
        self.assertEqual((error.word, error.details, error.program, error.place), ("refer", ("c", "to"), "wrong", (0, 1)))

    def test_late_references_act_too(self):
        for act, wanted in (("cascade", ()), ("null", ((None, None),))):
            store = begun(*tables(parent(), child(act, True)))
            store.put("p", sets(id=1))
            store.put("c", sets(of=1))
            store.take("p", TRUE)
            self.has_rows(store, "c", *wanted)

    def test_look_names_the_first_of_all(self):
        late = ("late", ("a",), "p", "keep", True)
        two = table("b", "a", references=(late, ("also", ("a",), "p", "keep", True)))
        store = begun(*tables(parent(), child("keep", True), two))
        store.put("c", sets(of=1))
        self.signals("refer", ("c", "to"), store.look)
        store.put("b", sets(a=1))
        self.signals("refer", ("b", "late"), store.look)
