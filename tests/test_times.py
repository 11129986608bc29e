"""Point 62: what a store was behind each commit, and the causes of its values."""

from deedstore.errors import BadDeed, InTransaction, NoTransaction, Unknown
from deedstore.histories import is_history, replayed
from deedstore.logged import LoggedStore, LoggedTimedStore, TimedStore
from deedstore.logs import checksum
from deedstore.machines import run
from deedstore.stores import Store
from tests.build import (
    NULL, TRUE, StoreTest, block, col, column, equal, handler, plus, procedure, programs, put,
    raise_, sets, table, variable, view,
)

T = table("t", "a", column("b", "text"))
S = ("sequence", ("s", 1, 1))
TIMED = (TimedStore, LoggedTimedStore)


def commit(store, *actions):
    """A commit of these actions: a method's name and what it is passed."""
    store.begin()
    for name, *args in actions:
        getattr(store, name)(*args)
    store.commit()


class BehindTest(StoreTest):
    def test_every_commit(self):
        for kind in TIMED:
            store = kind.of(S, ("table", T))
            copies = [Store(), store.copy()]
            for actions in (
                (("put", "t", sets(a=1)), ("put", "t", sets(a=2))), (), (("change", "t", sets(b="x"), equal(col("a"), 1)),),
                (("make", ("table", table("u", "z")), ("view", view("v", "t", ("a",)))), ("put", "u", ())),
                (("take", "t", TRUE), ("drop", "u", "v")), (("number", "s"), ("make", *programs(procedure("p")))),
            ):
                commit(store, *actions)
                copies.append(store.copy())
            store.begin()
            store.put("t", ())
            store.drop("p")
            for n, copy in enumerate(copies):
                found = store.behind(n)
                self.assertIs(type(found), Store)
                self.assertEqual((found.tables, found.views, found.programs), (copy.tables, copy.views, copy.programs))
                for word in found.tables + found.views:
                    self.assertEqual(list(found.rows(word)), list(copy.rows(word)))
                self.assertEqual((found.commits, found.journal), (n, ()))
                # Sequences are as they are now.
                self.assertEqual((found.sequences, found.following("s")), (("s",), 2))
                self.fails(NoTransaction, (), found.commit)
            self.assertTrue(store.behind(n=3) == copies[3])

    def test_it_can_go_on(self):
        store = TimedStore.of(("table", T), *programs(procedure("p", put("t", a=5))))
        commit(store, ("put", "t", ()))
        commit(store, ("take", "t", TRUE))
        found = store.behind(2)
        found.begin()
        run(found, "p")
        found.make(*programs(procedure("q", put("zz"))))
        self.assertEqual(list(found.rows("t")), [(0, (None, None)), (1, (5, None))])
        found.commit()
        self.assertEqual((found.commits, store.commits), (3, 3))
        self.assertEqual(list(store.behind(2).rows("t")), [(0, (None, None))])
        self.assertEqual(list(store.rows("t")), [])

    def test_cursors_and_histories_of_it(self):
        variables = (variable("c", ("cursor", "t")), variable("r", ("row", "t")), variable("f", "truth"))
        at = (("open", "c", "t", TRUE), ("fetch", "c", "r", "f"), ("fetch", "c", "r", "f"))
        store = TimedStore.of(("table", T), *programs(
            procedure("p", *at, ("changeat", "c", sets(b="x")), ("changeat", "c", sets(b="y")), variables=variables),
            procedure("q", *at, ("change", "t", sets(b="z"), TRUE, None), ("changeat", "c", sets(b="x")), variables=variables)))
        commit(store, ("put", "t", sets(a=1)), ("put", "t", sets(a=2)))
        commit(store, ("take", "t", TRUE))
        found = store.behind(2)
        found.begin()
        run(found, "p")
        self.has_rows(found, "t", (1, None), (2, "y"))
        self.assertEqual(self.raised(run, found, "q").word, "gone")
        self.assertTrue(is_history(store.behind(2), found.journal, found))
        self.fails(BadDeed, (0,), replayed, store.behind(2), (("put", "t", 1, (5, None)),))
        self.assertEqual(replayed(store.behind(2), (("put", "t", 2, (5, None)),)).row("t", 2), (5, None))

    def test_the_word_of_a_sequence_that_was_a_thing_then(self):
        store = TimedStore.of(("table", T))
        commit(store, ("drop", "t"))
        store.add_sequence(("t", 5, 1))
        self.assertEqual((store.behind(1).tables, store.behind(1).sequences), (("t",), ()))
        self.assertEqual((store.behind(2).tables, store.behind(2).sequences), ((), ("t",)))
        self.assertEqual(store.behind(0).sequences, ("t",))

    def test_unknown(self):
        for kind in TIMED:
            store = kind.of(("table", T))
            for x in (2, -1, 10 ** 50, None, True, False, "1", [], {}, (1,), "t"):
                self.fails(Unknown, (x,), store.behind, x)
            self.assertTrue(kind().behind(0) == Store())
            self.fails(Unknown, (1,), kind().behind, 1)

    def test_of_a_log(self):
        store = LoggedTimedStore.of(S, ("table", T))
        for k in range(5):
            commit(store, ("put", "t", sets(a=k)))
        again = LoggedTimedStore.recovered(store.log)
        for n in range(7):
            self.assertTrue(again.behind(n) == store.behind(n))
        self.fails(Unknown, (7,), again.behind, 7)
        cut = LoggedTimedStore.recovered(store.log[:-1])
        self.assertTrue(cut.behind(5) == store.behind(5))
        self.fails(Unknown, (6,), cut.behind, 6)

    def test_behind_a_checkpoint(self):
        store = LoggedTimedStore.of(S, ("table", T))
        commit(store, ("put", "t", sets(a=1)))
        commit(store, ("put", "t", sets(a=2)))
        store.checkpoint()
        commit(store, ("put", "t", sets(a=3)))
        for found in (store, LoggedTimedStore.recovered(store.log)):
            for n in (0, 1, 2, 5):
                self.fails(Unknown, (n,), found.behind, n)
            self.has_rows(found.behind(3), "t", (1, None), (2, None))
            self.has_rows(found.behind(4), "t", (1, None), (2, None), (3, None))
            self.assertEqual(found.behind(3).commits, 3)

    def test_a_checkpoint_of_no_commits(self):
        store = LoggedTimedStore()
        store.checkpoint()
        commit(store, ("make", ("table", T)))
        for found in (store, LoggedTimedStore.recovered(store.log)):
            self.assertEqual((found.behind(0).tables, found.behind(1).tables), ((), ("t",)))
            self.fails(Unknown, (2,), found.behind, 2)

    def test_a_checkpoint_of_one_commit(self):
        store = LoggedTimedStore.of(S, ("table", T))
        for _ in range(2):
            store.checkpoint()
            for found in (store, LoggedTimedStore.recovered(store.log)):
                # The first commit of the log is 1, so the empty store lies behind 0.
                self.assertEqual((found.behind(0).tables, found.behind(0).sequences, found.behind(0).commits), ((), ("s",), 0))
                self.assertEqual(found.behind(1).tables, ("t",))
                self.fails(Unknown, (2,), found.behind, 2)
        commit(store, ("put", "t", sets(a=1)))
        for found in (store, LoggedTimedStore.recovered(store.log)):
            self.assertEqual([len(list(found.behind(n).rows("t"))) for n in (1, 2)], [0, 1])
            self.assertEqual((found.behind(0).tables, found.cause("t", 0, "a")), ((), (2, 0)))
        store.checkpoint()
        for found in (store, LoggedTimedStore.recovered(store.log)):
            self.assertEqual(found.cause("t", 0, "a"), (2, 1))
            for n in (0, 1, 3):
                self.fails(Unknown, (n,), found.behind, n)

    def test_a_checkpoint_of_one_commit_without_deeds(self):
        store = LoggedTimedStore()
        commit(store)
        self.assertEqual(store.checkpoint(), '("begin" 1)\n("commit" 1 4342)\n')
        for found in (store, LoggedTimedStore.recovered(store.log)):
            self.assertTrue(found.behind(0) == found.behind(1) == Store())
            self.fails(Unknown, (2,), found.behind, 2)

    def test_a_log_that_begins_with_commit_0(self):
        store = LoggedTimedStore()
        store.checkpoint()
        commit(store, ("make", ("table", T)))
        text = store.log.replace('("begin" 1)', '("begin" 0)')
        lines = text.split("\n")
        lines[-2] = '("commit" 0 {})'.format(checksum("\n".join(lines[2:-2]) + "\n"))
        again = LoggedTimedStore.recovered("\n".join(lines[2:]))
        # Behind 0 lies what that commit made, not the empty store.
        self.assertEqual((again.commits, again.behind(0).tables), (0, ("t",)))
        self.fails(Unknown, (1,), again.behind, 1)

    def test_commits_that_failed(self):
        t = table("u", "a", keys=(("a",),), references=(("r", ("a",), "u", "keep", True),))
        w = table("w", "a", references=(("r", ("a",), "u", "keep", True),))
        store = TimedStore.of(("table", t), ("table", w))
        store.begin()
        store.put("w", sets(a=1))
        self.signals("refer", ("w", "r"), store.commit)
        self.fails(Unknown, (2,), store.behind, 2)
        commit(store, ("put", "u", sets(a=1)), ("put", "w", sets(a=1)))
        self.assertEqual(list(store.behind(2).rows("w")), [(2, (1,))])


class CauseTest(StoreTest):
    def causes(self, store, number):
        return [store.cause("t", number, word) for word in ("a", "b")]

    def test_put_and_change(self):
        for kind in TIMED:
            store = kind.of(S, ("table", T))
            commit(store, ("put", "t", sets(a=1)), ("number", "s"), ("put", "t", sets(a=2)), ("change", "t", sets(b="x"), equal(col("a"), 2)))
            commit(store, ("change", "t", sets(a=plus(col("a"), 0), b="x"), TRUE), ("change", "t", sets(a=7), equal(col("a"), 2)))
            # The first deed makes the table, in the commit before.
            self.assertEqual(self.causes(store, 0), [(2, 0), (3, 0)])
            self.assertEqual(self.causes(store, 1), [(3, 2), (2, 2)])
            self.assertEqual(store.cause(table="t", number=0, column="a"), (2, 0))
            if kind is LoggedTimedStore:
                again = kind.recovered(store.log)
                self.assertEqual(self.causes(again, 0) + self.causes(again, 1), [(2, 0), (3, 0), (3, 2), (2, 2)])

    def test_the_last_that_gave_another_value(self):
        store = TimedStore.of(("table", T))
        commit(store, ("put", "t", sets(a=1)))
        commit(store, ("change", "t", sets(a=2), TRUE), ("change", "t", sets(a=1), TRUE), ("change", "t", sets(a=1), TRUE))
        self.assertEqual(self.causes(store, 0), [(3, 1), (2, 0)])
        commit(store, ("change", "t", (), TRUE))
        self.assertEqual(self.causes(store, 0), [(3, 1), (2, 0)])

    def test_null(self):
        store = TimedStore.of(("table", T))
        commit(store, ("put", "t", ()))
        commit(store, ("change", "t", sets(a=NULL, b=""), TRUE))
        self.assertEqual(self.causes(store, 0), [(2, 0), (3, 0)])

    def test_deeds_of_the_straight_history(self):
        store = TimedStore.of(("table", T), *programs(procedure(
            "p", block(put("t", a=1), raise_("e"), handlers=(handler("e"),)), put("t", a=2))))
        store.begin()
        store.mark()
        store.put("t", ())
        store.undo(0)
        run(store, "p")
        store.make(*programs(procedure("q")))
        store.change("t", sets(b="x"), TRUE)
        store.commit()
        self.assertEqual(list(store.rows("t")), [(2, (2, "x"))])
        self.assertEqual(self.causes(store, 2), [(2, 0), (2, 2)])

    def test_the_present_transaction(self):
        store = TimedStore.of(("table", T))
        commit(store, ("put", "t", sets(a=1)))
        store.begin()
        store.change("t", sets(b="x"), TRUE)
        store.put("t", ())
        store.mark()
        store.change("t", sets(a=9), TRUE)
        self.assertEqual(self.causes(store, 0) + self.causes(store, 1), [None] * 4)
        store.undo(0)
        self.assertEqual(self.causes(store, 0) + self.causes(store, 1), [(2, 0), None, None, None])
        store.change("t", sets(b=NULL), TRUE)
        self.assertEqual(self.causes(store, 0), [(2, 0), None])
        store.rollback()
        self.assertEqual(self.causes(store, 0), [(2, 0), (2, 0)])
        self.fails(Unknown, (1,), store.cause, "t", 1, "a")

    def test_rows_that_were_taken(self):
        store = TimedStore.of(("table", T))
        commit(store, ("put", "t", ()))
        store.begin()
        store.take("t", TRUE)
        self.fails(Unknown, (0,), store.cause, "t", 0, "a")
        store.rollback()
        self.assertEqual(store.cause("t", 0, "a"), (2, 0))

    def test_a_number_that_comes_again(self):
        lines = LoggedTimedStore.of(("table", T))
        commit(lines, ("put", "t", sets(a=1)), ("take", "t", TRUE))
        again = LoggedTimedStore.recovered(lines.checkpoint())
        commit(again, ("put", "t", sets(a=5)))
        self.assertEqual(list(again.rows("t")), [(0, (5, None))])
        self.assertEqual(again.cause("t", 0, "a"), (3, 0))

    def test_behind_a_checkpoint(self):
        store = LoggedTimedStore.of(("table", table("q", "z")), ("table", T), *programs(procedure("p")))
        commit(store, ("put", "t", ()), ("put", "q", ()), ("put", "t", ()))
        commit(store, ("change", "t", sets(a=1), TRUE))
        store.checkpoint()
        commit(store, ("change", "t", sets(b="x"), TRUE))
        for found in (store, LoggedTimedStore.recovered(store.log)):
            # One deed makes all, then the rows come by tables and numbers.
            self.assertEqual(found.cause("q", 1, "z"), (3, 1))
            self.assertEqual(self.causes(found, 0) + self.causes(found, 2), [(3, 2), (4, 0), (3, 3), (4, 1)])

    def test_unknown(self):
        store = TimedStore.of(S, ("table", T), ("view", view("v", "t", ("a",))), *programs(procedure("p")))
        commit(store, ("put", "t", ()))
        for x in ("z", "v", "s", "p", "", None, 5, True, [], {}, ("t",)):
            self.fails(Unknown, (x,), store.cause, x, [], [])
        for x in (1, -1, None, False, "0", [], {}, (0,)):
            self.fails(Unknown, (x,), store.cause, "t", x, [])
        for x in ("z", "A", "", None, 0, True, [], {}, ("a",)):
            self.fails(Unknown, (x,), store.cause, "t", 0, x)


class ClassTest(StoreTest):
    def test_classes(self):
        for kind in TIMED + (LoggedStore,):
            self.assertTrue(issubclass(kind, Store))
            store = kind.of(("table", T))
            self.assertIs(type(store), kind)
            self.assertTrue(store == Store.of(("table", T)))
            self.assertIs(type(store.copy()), Store)
            self.assertEqual(kind.MOST, 100000)
        self.assertTrue(issubclass(LoggedTimedStore, LoggedStore) and issubclass(LoggedTimedStore, TimedStore))
        self.assertFalse(hasattr(TimedStore, "log") or hasattr(LoggedStore, "behind"))
        self.assertIs(type(LoggedTimedStore.recovered("")), LoggedTimedStore)

    def test_a_checkpoint_in_a_transaction(self):
        store = LoggedTimedStore()
        store.begin()
        self.fails(InTransaction, (), store.checkpoint)
