"""Points 22 and 23: the faults of a store; 26: statements in a store that has some fail whole."""

import random

from deedstore.faults import faults
from deedstore.histories import replayed
from deedstore.logged import LoggedStore, LoggedTimedStore, TimedStore
from deedstore.machines import run
from deedstore.steppers import Stepper
from deedstore.stores import Store
from tests.build import (
    NULL, TRUE, StoreTest, begun, col, column, equal, op, procedure, programs, put, sets, table,
    tables, unchanged, view,
)


def broken(store, *rows):
    """The store with these rows, (table, number, row), whether they fit or not."""
    return replayed(store, tuple(("put", *row) for row in rows))


def rows_of(word, *rows):
    return [(word, number, row) for number, row in enumerate(rows)]


class SortTest(StoreTest):
    def test_null(self):
        t = table("t", column("a", "int", False), "b", column("c", "text", False))
        found = broken(Store.of(("table", t)), *rows_of("t", (1, None, "x"), (None, None, "x"), (None, 1, None), (1, 1, None)))
        self.assertEqual(faults(found), [("null", "t", "a", 1), ("null", "t", "a", 2), ("null", "t", "c", 2), ("null", "t", "c", 3)])
        self.assertEqual(faults(store=found), faults(found))

    def test_check(self):
        low, other = ("low", op("<", col("a"), 5)), ("differ", ("not", equal(col("a"), col("b"))))
        t = table("t", "a", "b", checks=(low, other))
        # What is NULL is not False.
        found = broken(Store.of(("table", t)), *rows_of("t", (5, 5), (None, 9), (4, 4), (9, None), (4, 5)))
        self.assertEqual(faults(found), [
            ("check", "t", "low", 0), ("check", "t", "low", 3), ("check", "t", "differ", 0), ("check", "t", "differ", 2)])

    def test_key(self):
        t = table("t", "a", "b", keys=(("a",), ("b",), ("b", "a")))
        # Three rows with one key are three pairs.
        found = broken(Store.of(("table", t)), *rows_of("t", (1, None), (2, 7), (1, None), (1, 8), (2, 7)))
        self.assertEqual(faults(found), [
            ("key", "t", 0, 0, 2), ("key", "t", 0, 0, 3), ("key", "t", 0, 1, 4), ("key", "t", 0, 2, 3), ("key", "t", 1, 1, 4), ("key", "t", 2, 1, 4)])

    def test_keys_of_two_columns_with_null(self):
        t = table("t", "a", "b", keys=(("a", "b"),))
        rows = rows_of("t", (1, None), (1, None), (None, None), (None, None), (1, 1), (1, 2), (2, 1), (1, 1))
        self.assertEqual(faults(broken(Store.of(("table", t)), *rows)), [("key", "t", 0, 4, 7)])

    def test_keys_by_numbers(self):
        t = table("t", "a", keys=(("a",),))
        found = broken(Store.of(("table", t)), ("t", 9, (1,)), ("t", 2, (5,)), ("t", 7, (5,)), ("t", 4, (1,)), ("t", 1, (1,)))
        self.assertEqual(faults(found), [("key", "t", 0, 1, 4), ("key", "t", 0, 1, 9), ("key", "t", 0, 2, 7), ("key", "t", 0, 4, 9)])

    def test_keys_of_each_kind(self):
        t = table("t", column("w", "text"), column("f", "truth"), keys=(("w",), ("f",), ("f", "w")))
        found = broken(Store.of(("table", t)), *rows_of("t", ("a", True), ("A", False), ("a", None), ("", True)))
        self.assertEqual(faults(found), [("key", "t", 0, 0, 2), ("key", "t", 1, 0, 3)])

    def test_reference(self):
        p = table("p", "a", "b", keys=(("a", "b"), ("a",)))
        c = table("c", "x", "y", references=(("one", ("x", "y"), "p", "keep", False), ("two", ("y", "x"), "p", "null", True)))
        found = broken(Store.of(*tables(p, c)), ("p", 0, (1, 2)), ("p", 1, (3, None)), *[
            ("c", 5 + k, row) for k, row in enumerate(((1, 2), (2, 1), (None, 9), (9, None), (1, 3), (3, None), (None, None)))])
        self.assertEqual(faults(found), [
            ("reference", "c", "one", 6), ("reference", "c", "one", 9), ("reference", "c", "two", 5), ("reference", "c", "two", 9)])

    def test_reference_to_the_same_table(self):
        t = table("t", "id", "up", keys=(("id",),), references=(("r", ("up",), "t", "cascade", False),))
        found = broken(Store.of(("table", t)), *rows_of("t", (1, 2), (2, 1), (3, 3), (4, 5), (None, None), (None, 3)))
        self.assertEqual(faults(found), [("reference", "t", "r", 3)])

    def test_the_main_key_is_the_first_one(self):
        p = table("p", "a", "b", keys=(("b",), ("a",)))
        c = table("c", "x", references=(("r", ("x",), "p", "keep", False),))
        self.assertEqual(faults(broken(Store.of(*tables(p, c)), ("p", 0, (1, 2)), ("c", 1, (2,)), ("c", 2, (1,)))), [("reference", "c", "r", 2)])


class OrderTest(StoreTest):
    def test_all_sorts(self):
        def made(word):
            return table(word, column("b", "int", False), column("a", "int", False), keys=(("a",), ("b",)), checks=(
                ("z", op("<", col("a"), 5)), ("y", op("<", col("b"), 5))), references=(
                ("s", ("a",), "u", "keep", False), ("r", ("b",), "t", "keep", True)))
        found = broken(Store.of(*tables(made("u"), made("t"))), *[
            (word, number, row) for number, (word, row) in enumerate(
                [(word, row) for word in "ut" for row in ((None, 7), (7, 7), (7, None))])])
        wanted = []
        for word, first in (("t", 3), ("u", 0)):
            wanted.append(("null", word, "b", first))
            wanted.append(("null", word, "a", first + 2))
        for word, first in (("t", 3), ("u", 0)):
            wanted += [("check", word, "z", first), ("check", word, "z", first + 1), ("check", word, "y", first + 1), ("check", word, "y", first + 2)]
        for word, first in (("t", 3), ("u", 0)):
            wanted += [("key", word, 0, first, first + 1), ("key", word, 1, first + 1, first + 2)]
        self.assertEqual(faults(found), wanted)
        without = replayed(found, (("change", "u", 0, (None, None)), ("change", "u", 1, (None, None))))
        self.assertEqual([part for part in faults(without) if part[0] == "reference"], [
            ("reference", "t", "s", 3), ("reference", "t", "s", 4)])

    def test_none(self):
        t = table("t", column("a", "int", False), keys=(("a",),), checks=(("c", op("<", col("a"), 5)),))
        store = begun(("table", t), ("sequence", ("s", 1, 1)), ("view", view("v", "t", ("a",))), *programs(procedure("p", put("zz"))))
        self.assertEqual(faults(store), [])
        store.put("t", sets(a=1))
        found = faults(store)
        self.assertEqual(found, [])
        found.append(5)
        self.assertEqual(faults(store), [])
        self.assertEqual(faults(Store()), [])

    def test_late_references_within_a_transaction(self):
        t = table("t", "id", "up", keys=(("id",),), references=(("r", ("up",), "t", "keep", True),))
        for kind in (Store, LoggedStore, TimedStore, LoggedTimedStore):
            store = kind.of(("table", t), *programs(procedure("p", put("t", id=1, up=9), ("look",))))
            store.begin()
            store.put("t", sets(up=1))
            self.assertEqual(faults(store), [("reference", "t", "r", 0)])
            store.put("t", sets(id=1))
            self.assertEqual(faults(store), [])
            store.take("t", TRUE)
            stepper = Stepper(store, "p")
            stepper.until("p", (0, 1))
            self.assertEqual(faults(store), [("reference", "t", "r", 2)])
            stepper.give_up()
            self.assertEqual(faults(store), [])

    def test_a_recovered_store(self):
        t = table("t", column("a", "int", False), keys=(("a",),))
        store = LoggedTimedStore.of(("table", t))
        store.begin()
        store.put("t", sets(a=1))
        store.put("t", sets(a=2))
        store.commit()
        # Whether keys hold is not asked there; another log has these rows.
        other = LoggedTimedStore.of(("table", table("t", "a")))
        other.begin()
        other.put("t", sets(a=1))
        other.put("t", sets(a=1))
        other.put("t", ())
        other.commit()
        rows = other.log[other.log.index('("begin" 2)'):]
        again = LoggedTimedStore.recovered(store.log[:store.log.index('("begin" 2)')] + rows)
        self.assertEqual(again.commits, 2)
        self.assertEqual(faults(again), [("null", "t", "a", 2), ("key", "t", 0, 0, 1)])


class SignalTest(StoreTest):
    def test_signals_of_checks(self):
        t = table("t", "a", checks=(("c", equal(op("div", 6, col("a")), 2)),))
        store = Store.of(("table", t))
        self.assertEqual(faults(broken(store, ("t", 0, (2,)), ("t", 1, (None,)))), [("check", "t", "c", 0)])
        for rows in (((0,),), ((2,), (0,)), ((3,), (0,), (2,))):
            found = broken(store, *rows_of("t", *rows))
            before = unchanged(found)
            self.signals("division", (), faults, found)
            self.assertEqual(unchanged(found), before)
        u = table("u", "a", checks=(("c", op("<", op("*", col("a"), col("a")), 2)),))
        self.signals("range", (), faults, broken(Store.of(("table", u)), ("u", 0, (10 ** 20,))))

    def test_of_other_faults_beside(self):
        # The signal comes, whatever else does not hold.
        t = table("t", column("a", "int", False), keys=(("a",),), checks=(("c", equal(op("mod", 6, col("a")), 2)),))
        self.signals("division", (), faults, broken(Store.of(("table", t)), *rows_of("t", (None,), (0,), (0,))))

    def test_conditions_of_views_are_not_asked(self):
        v = view("v", "t", ("a",), equal(op("div", 1, col("a")), 1), True)
        store = broken(Store.of(("table", table("t", "a")), ("view", v)), ("t", 0, (0,)))
        self.assertEqual(faults(store), [])
        self.signals("division", (), lambda: list(store.rows("v")))


class BrokenStoreTest(StoreTest):
    """A store that a history has broken: statements look at their own rows, and fail whole."""

    def store(self):
        t = table("t", column("a", "int", False), "b", keys=(("a",),), checks=(("c", op("<", col("b"), 5)),),
                  references=(("r", ("b",), "t", "null", False),))
        store = Store.of(("table", t), ("sequence", ("s", 1, 1)), *programs(procedure("p", put("t", a=9))))
        return broken(store, *rows_of("t", (1, None), (1, None), (2, 7), (None, None), (3, 4)))

    def test_faults(self):
        self.assertEqual(faults(self.store()), [
            ("null", "t", "a", 3), ("check", "t", "c", 2), ("key", "t", 0, 0, 1), ("reference", "t", "r", 2), ("reference", "t", "r", 4)])

    def test_statements_fail_whole(self):
        store = self.store()
        store.begin()
        before = unchanged(store)
        for word, details, action, *parts in (
            # The first change that does not fit, whichever was wrong before.
            ("check", ("t", "c"), store.change, "t", (), TRUE), ("null", ("t", "a"), store.change, "t", (), ("null", col("a"))), ("check", ("t", "c"), store.change, "t", (), equal(col("a"), 2)),
            ("key", ("t", 0), store.change, "t", sets(b=1), equal(col("a"), 1)), ("key", ("t", 0), store.put, "t", sets(a=1)),
            # References are looked at in all rows.
            ("refer", ("t", "r"), store.put, "t", sets(a=8)), ("refer", ("t", "r"), store.take, "t", equal(col("a"), 1)),
            ("refer", ("t", "r"), store.look,), ("refer", ("t", "r"), store.take, "t", ("value", False)),
        ):
            self.signals(word, details, action, *parts)
            self.assertEqual(unchanged(store), before)
        error = self.raised(run, store, "p")
        self.assertEqual((error.word, error.place), ("refer", (0, 0)))
        self.assertEqual(unchanged(store)[:2], before[:2])

    def test_commit(self):
        store = self.store()
        store.begin()
        self.signals("refer", ("t", "r"), store.commit)
        store.begin()
        store.change("t", sets(b=NULL), op("<", 1, col("a")))
        self.assertEqual([part for part in faults(store) if part[0] == "reference"], [])
        store.commit()
        self.assertEqual(faults(store), [("null", "t", "a", 3), ("key", "t", 0, 0, 1)])

    def test_only_numbers_stay(self):
        store = self.store()
        store.begin()
        self.signals("refer", ("t", "r"), store.put, "t", sets(a=op("+", 100, ("number", "s"))))
        self.assertEqual((store.journal, store.following("s")), ((("number", "s", 1),), 2))


class RandomTest(StoreTest):
    def plain(self, store):
        """The faults, by going through all rows for each sort."""
        found = []
        things = [(word, store.thing(word), list(store.rows(word))) for word in store.tables]
        at = {word: [part[0] for part in thing[1]].index for word, thing, _ in things}
        for word, thing, rows in things:
            found += [("null", word, name, n) for name, _, may, _ in thing[1] for n, row in rows if not may and row[at[word](name)] is None]
        for word, thing, rows in things:
            for name, (_, _, (_, left), (_, right)) in thing[3]:
                found += [("check", word, name, n) for n, row in rows
                          if row[at[word](left)] is not None and not row[at[word](left)] < right]
        for word, thing, rows in things:
            for k, key in enumerate(thing[2]):
                values = {n: [row[at[word](name)] for name in key] for n, row in rows}
                found += [("key", word, k, n, m) for n in values for m in values if n < m and values[n] == values[m] and None not in values[n]]
        for word, thing, rows in things:
            for name, columns, other, _, _ in thing[4]:
                main = store.thing(other)[2][0]
                there = [[row[at[other](part)] for part in main] for _, row in store.rows(other)]
                for n, row in rows:
                    values = [row[at[word](part)] for part in columns]
                    if None not in values and values not in there:
                        found.append(("reference", word, name, n))
        return found

    def test_random_rows(self):
        t = table("t", column("a", "int", False), "b", keys=(("b", "a"), ("a",)), checks=(("c", op("<", col("a"), 3)), ("b", op("<", col("b"), 2))),
                  references=(("r", ("b", "a"), "t", "keep", True), ("q", ("a", "b"), "s", "keep", False)))
        s = table("s", "a", column("b", "int", False), keys=(("a", "b"), ("b",)), references=(("r", ("b", "a"), "t", "keep", True),))
        store = Store.of(*tables(t, s))
        for seed in range(60):
            chance = random.Random(seed)
            rows = [(chance.choice("st"), number, tuple(chance.choice((None, 0, 1, 2, 3)) for _ in "ab"))
                    for number in chance.sample(range(40), chance.randrange(25))]
            found = broken(store, *rows)
            self.assertEqual(faults(found), self.plain(found))

    def test_300_rows(self):
        t = table("t", "a", keys=(("a",),), references=(("r", ("a",), "t", "keep", True),))
        found = broken(Store.of(("table", t)), *rows_of("t", *[(5,)] * 300))
        told = faults(found)
        self.assertEqual((len(told), told[0], told[-1]), (300 * 299 // 2, ("key", "t", 0, 0, 1), ("key", "t", 0, 298, 299)))
        far = broken(Store.of(("table", t)), ("t", 10 ** 99, (5,)), ("t", 7, (5,)))
        self.assertEqual(faults(far), [("key", "t", 0, 7, 10 ** 99)])
