"""Points 2 and 44: the bounds of stores, trees and programs, with few levels of Python calls."""

import inspect
import sys
import time

from deedstore.errors import Stale
from deedstore.logged import LoggedTimedStore
from deedstore.machines import run
from tests.build import (
    FALSE, NULL, TRUE, StoreTest, begun, block, col, column, equal, function, handler, op, plus,
    procedure, programs, put, raise_, set_, sets, table, tables, trigger, value, var, variable,
    view,
)

LEVELS = 150


class FewLevels:
    """Within it, only so many more levels of Python calls are there."""

    def __enter__(self):
        self.before = sys.getrecursionlimit()
        sys.setrecursionlimit(len(inspect.stack()) + LEVELS)

    def __exit__(self, *told):
        sys.setrecursionlimit(self.before)


def nots(many, e):
    for _ in range(many):
        e = ("not", e)
    return e


def depth(tree):
    return 1 + max(map(depth, tree)) if isinstance(tree, tuple) and tree else 1


def parts(tree):
    return 1 + sum(map(parts, tree)) if isinstance(tree, tuple) else 1


T = table("t", "a", column("b", "truth"))


class LevelTest(StoreTest):
    def test_deep_expressions(self):
        store = begun(("table", T))
        e = nots(28, TRUE)
        self.assertEqual(depth(e), 30)
        with FewLevels():
            store.put("t", (("b", e),))
            self.assertEqual(store.change("t", (("b", e),), e), 1)
            self.assertEqual(store.take("t", e), 1)

    def test_deep_things(self):
        c = nots(25, FALSE)
        t = table("t", column("a", "truth", True, c), checks=(("c", c),))
        self.assertEqual(depth(t), 30)
        with FewLevels():
            store = begun(("table", t), ("view", view("v", "t", ("a",), nots(26, TRUE), True)))
            self.assertEqual(store.put("v", ()), 1)
            self.assertEqual(list(store.rows("v")), [(0, (True,))])
            self.assertTrue(store == store.copy())

    def test_deep_programs(self):
        deep = block(put("t", b=nots(1, TRUE)), raise_("x"))
        levels = 1
        while depth(deep) < 28:
            deep = block(deep, handlers=(handler("y"),), last=(("look",),))
            levels += 1
        with FewLevels():
            store = begun(("table", T), *programs(("procedure", "p", (), deep)))
            error = self.raised(run, store, "p")
        self.assertEqual((error.word, len(error.place)), ("x", 2 * levels))

    def test_deep_faults(self):
        deep = ("if", ((nots(3, ("field", "zz", "a")), ()),), ())
        while depth(deep) < 26:
            deep = ("while", None, TRUE, (deep,))
        store = begun(*programs(procedure("p", deep)))
        with FewLevels():
            self.assertRaises(Stale, run, store, "p")

    def test_programs_within_one_another(self):
        # Each function calls the next one deep within an expression deep within blocks.
        words = "abcdefgh"
        made = []
        for k, word in enumerate(words):
            inner = ("call", words[k + 1], (var("n"),)) if k < 7 else var("n")
            e = plus(1, inner)
            for _ in range(6):
                e = ("case", TRUE, e, NULL)
            body = ("return", e)
            for _ in range(6):
                body = block(body, handlers=(handler("x"),))
            made.append(function(word, body, params=(("n", "int", "in"),)))
        store = begun(("table", T), *programs(*made, procedure("p", put("t", a=("call", "a", (value(5),))))))
        with FewLevels():
            run(store, "p")
            store.put("t", sets(a=("count", "t", equal(("call", "a", (value(1),)), 9))))
        self.has_rows(store, "t", (13, None), (1, None))

    def test_triggers_and_cascades_within_one_another(self):
        up = ("r", ("up",), "n", "cascade", False)
        n = table("n", "id", "up", keys=(("id",),), references=(up,))
        store = begun(("table", n), ("table", T), *programs(
            trigger("g", "t", "after", "put", ("if", ((op("<", ("field", "new", "a"), 8), (
                put("t", a=plus(("field", "new", "a"), 1)),)),), ()))))
        for k in range(9):
            store.put("n", sets(id=k, up=value(k - 1 if k else None)))
        with FewLevels():
            store.put("t", sets(a=1))
            store.take("n", equal(col("id"), 0))
        self.has_rows(store, "n")
        self.assertEqual(len(list(store.rows("t"))), 8)

    def test_views_over_views(self):
        words = ["v" + chr(ord("a") + k) for k in range(26)]
        things = [("view", view(words[k], words[k + 1] if k < 25 else "t", ("a", "b"), nots(24, TRUE), True)) for k in range(26)]
        with FewLevels():
            store = begun(("table", T), *things)
            store.put("va", ())
            self.assertEqual(store.change("va", sets(a=1), nots(28, TRUE)), 1)
            self.assertEqual(list(store.rows("va")), [(0, (1, None))])

    def test_logs(self):
        t = table("t", column("a", "truth", True, nots(24, TRUE)))
        store = LoggedTimedStore.of(("table", t))
        with FewLevels():
            again = LoggedTimedStore.recovered(store.log)
            self.assertTrue(again == store)
            self.assertEqual(again.checkpoint(), store.checkpoint())


class ManyTest(StoreTest):
    def test_2000_parts(self):
        many = procedure("p", *[set_("n", plus(var("n"), 1))] * 164, params=(("n", "int", "both"),))
        self.assertLessEqual(parts(many), 2000)
        self.assertGreater(parts(many), 1950)
        store = begun(*programs(many))
        self.assertEqual(run(store, "p", 0).results, (164,))

    def test_300_rows_and_30_things(self):
        kids = [table("c" + a, "of", references=(("r", ("of",), "p", "cascade", False),)) for a in "abcdefghij"]
        views = [("view", view("v" + a, "c" + a, ("of",), op("<", col("of"), 15))) for a in "abcdefghij"]
        calls = [procedure("q" + a, ("change", "v" + a, sets(of=col("of")), TRUE, None)) for a in "abcdefgh"]
        store = LoggedTimedStore.of(("table", table("p", "id", keys=(("id",),))), *tables(*kids), *views, *programs(*calls))
        begin = time.perf_counter()
        store.begin()
        for k in range(27):
            store.put("p", sets(id=k))
        for word in store.tables:
            if word != "p":
                store.fill(word, sets(of=col("id")), "p", TRUE)
        self.assertEqual(sum(len(list(store.rows(word))) for word in store.tables), 297)
        for word in store.programs:
            run(store, word)
        store.change("p", sets(id=plus(col("id"), 100)), TRUE)
        store.commit()
        self.assertTrue(LoggedTimedStore.recovered(store.log) == store)
        store.begin()
        store.take("p", TRUE)
        store.commit()
        self.assertEqual(sum(len(list(store.rows(word))) for word in store.tables), 0)
        self.assertLess(time.perf_counter() - begin, 30)

    def test_no_steps_that_grow_with_integers(self):
        store = LoggedTimedStore.of(("sequence", ("s", -(10 ** 30), 10 ** 30)), ("table", T), *programs(procedure("p", block(
            raise_("e", 1), handlers=(handler("e", set_("n", ("told", 10 ** 60, "int"))),)), variables=(variable("n"),))))
        store.begin()
        self.assertEqual([store.number("s") for _ in range(3)], [-(10 ** 30), 0, 10 ** 30])
        store.put("t", sets(a=op("mod", op("-", 0, 10 ** 30), 3)))
        run(store, "p", most=10 ** 90)
        self.assertIsNone(store.row("t", 10 ** 90))
        store.commit()
        text = store.log.replace('("put" "t" 0', '("put" "t" ' + "9" * 99)
        again = LoggedTimedStore.recovered(text)
        self.assertEqual(again.commits, 1)
