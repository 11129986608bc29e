"""Points 2 and 44: the bounds of stores, trees and programs, with few levels of Python calls."""

import inspect
import sys
import time

from deedstore.errors import BadDeed, BadThing, Stale
from deedstore.faults import faults
from deedstore.histories import is_history, replayed, straight
from deedstore.logged import LoggedTimedStore
from deedstore.machines import run
from deedstore.programs import fault, stale
from deedstore.steppers import Stepper
from deedstore.stores import Store
from tests.build import (
    FALSE, NULL, TRUE, StoreTest, begun, block, col, column, do, equal, function, handler, op, plus,
    procedure, programs, put, raise_, set_, sets, table, tables, trigger, value, var, variable,
    view,
)

LEVELS = 150


class FewLevels:
    """Within it, only so many more levels of Python calls are there."""

    def __enter__(self):
        self.before = sys.getrecursionlimit()
        sys.setrecursionlimit(len(inspect.stack()) + LEVELS)

    def __exit__(self, *told):
        sys.setrecursionlimit(self.before)


def nots(many, e):
    for _ in range(many):
        e = ("not", e)
    return e


def depth(tree):
    return 1 + max(map(depth, tree)) if isinstance(tree, tuple) and tree else 1


def parts(tree):
    return 1 + sum(map(parts, tree)) if isinstance(tree, tuple) else 1


T = table("t", "a", column("b", "truth"))


class LevelTest(StoreTest):
    def test_deep_expressions(self):
        store = begun(("table", T))
        e = nots(28, TRUE)
        self.assertEqual(depth(e), 30)
        with FewLevels():
            store.put("t", (("b", e),))
            self.assertEqual(store.change("t", (("b", e),), e), 1)
            self.assertEqual(store.take("t", e), 1)

    def test_deep_things(self):
        c = nots(25, FALSE)
        t = table("t", column("a", "truth", True, c), checks=(("c", c),))
        self.assertEqual(depth(t), 30)
        with FewLevels():
            store = begun(("table", t), ("view", view("v", "t", ("a",), nots(26, TRUE), True)))
            self.assertEqual(store.put("v", ()), 1)
            self.assertEqual(list(store.rows("v")), [(0, (True,))])
            self.assertTrue(store == store.copy())

    def test_deep_programs(self):
        deep = block(put("t", b=nots(1, TRUE)), raise_("x"))
        levels = 1
        while depth(deep) < 28:
            deep = block(deep, handlers=(handler("y"),), last=(("look",),))
            levels += 1
        with FewLevels():
            store = begun(("table", T), *programs(("procedure", "p", (), deep)))
            error = self.raised(run, store, "p")
        self.assertEqual((error.word, len(error.place)), ("x", 2 * levels))

    def test_deep_faults(self):
        deep = ("if", ((nots(3, ("field", "zz", "a")), ()),), ())
        while depth(deep) < 26:
            deep = ("while", None, TRUE, (deep,))
        store = begun(*programs(procedure("p", deep)))
        with FewLevels():
            self.assertRaises(Stale, run, store, "p")

    def test_programs_within_one_another(self):
        # Each function calls the next one deep within an expression deep within blocks.
        words = "abcdefgh"
        made = []
        for k, word in enumerate(words):
            inner = ("call", words[k + 1], (var("n"),)) if k < 7 else var("n")
            e = plus(1, inner)
            for _ in range(6):
                e = ("case", TRUE, e, NULL)
            body = ("return", e)
            for _ in range(6):
                body = block(body, handlers=(handler("x"),))
            made.append(function(word, body, params=(("n", "int", "in"),)))
        store = begun(("table", T), *programs(*made, procedure("p", put("t", a=("call", "a", (value(5),))))))
        with FewLevels():
            run(store, "p")
            store.put("t", sets(a=("count", "t", equal(("call", "a", (value(1),)), 9))))
        self.has_rows(store, "t", (13, None), (1, None))

    def test_triggers_and_cascades_within_one_another(self):
        up = ("r", ("up",), "n", "cascade", False)
        n = table("n", "id", "up", keys=(("id",),), references=(up,))
        store = begun(("table", n), ("table", T), *programs(
            trigger("g", "t", "after", "put", ("if", ((op("<", ("field", "new", "a"), 8), (
                put("t", a=plus(("field", "new", "a"), 1)),)),), ()))))
        for k in range(9):
            store.put("n", sets(id=k, up=value(k - 1 if k else None)))
        with FewLevels():
            store.put("t", sets(a=1))
            store.take("n", equal(col("id"), 0))
        self.has_rows(store, "n")
        self.assertEqual(len(list(store.rows("t"))), 8)

    def test_views_over_views(self):
        words = ["v" + chr(ord("a") + k) for k in range(26)]
        things = [("view", view(words[k], words[k + 1] if k < 25 else "t", ("a", "b"), nots(24, TRUE), True)) for k in range(26)]
        with FewLevels():
            store = begun(("table", T), *things)
            store.put("va", ())
            self.assertEqual(store.change("va", sets(a=1), nots(28, TRUE)), 1)
            self.assertEqual(list(store.rows("va")), [(0, (1, None))])

    def test_logs(self):
        t = table("t", column("a", "truth", True, nots(24, TRUE)))
        store = LoggedTimedStore.of(("table", t))
        with FewLevels():
            again = LoggedTimedStore.recovered(store.log)
            self.assertTrue(again == store)
            self.assertEqual(again.checkpoint(), store.checkpoint())


    def test_deep_checks_and_views_in_faults_and_histories(self):
        c = nots(24, FALSE)
        t = table("t", column("a", "truth", True, c), checks=(("c", c),))
        with FewLevels():
            store = begun(("table", t), ("view", view("v", "t", ("a",), nots(26, TRUE), True)))
            before = store.copy()
            broken = replayed(store, (("drop", ("v",)), ("put", "t", 0, (True,))))
            self.assertEqual(faults(broken), [("check", "t", "c", 0)])
            store.drop("v")
            self.assertTrue(is_history(before, store.journal, store))
            self.assertEqual(straight(store.journal), store.journal)

    def test_deep_programs_looked_at(self):
        deep = block(set_("zz", nots(1, TRUE)))
        levels = 1
        while depth(deep) < 28:
            deep = block(deep, handlers=(handler("y"),), last=(("look",),))
            levels += 1
        program = ("procedure", "p", (), deep)
        with FewLevels():
            self.assertEqual(fault(Store(), program), ((0, 0) * levels, ("name", "zz")))
            store = begun(*programs(program))
            self.assertEqual(stale(store), [("p", (0, 0) * levels, ("name", "zz"))])
            for many in (28, 5000):
                self.fails(BadThing, ("form", "p"), fault, store, ("procedure", "p", (), block(set_("zz", nots(many, TRUE)))))

    def test_deep_steps(self):
        deep = block(put("t", b=nots(1, TRUE)), raise_("x"))
        while depth(deep) < 28:
            deep = block(deep, handlers=(handler("y"),), last=(("look",),))
        with FewLevels():
            store = begun(("table", T), *programs(("procedure", "p", (), deep)))
            stepper = Stepper(store, "p")
            blocks = 0
            while stepper.at is not None:
                blocks = max(blocks, len(stepper.frames[0][2]))
                stepper.into()
            self.assertEqual(self.raised(stepper.outcome).word, "x")
            stepper = Stepper(store, "p")
            for _ in range(blocks):
                stepper.into()
            stepper.give_up()
        self.assertGreater(blocks, 10)

    def test_steps_of_programs_within_one_another(self):
        words = "abcdefgh"
        made = [procedure(words[k], do(words[k + 1]) if k < 7 else ("look",)) for k in range(8)]
        store = begun(*programs(*made, procedure("p", do("a"))))
        with FewLevels():
            stepper = Stepper(store, "p")
            self.assertEqual(stepper.until("h", (0, 0)), ("h", (0, 0)))
            self.assertEqual([frame[0] for frame in stepper.frames], list("p" + words))
            self.assertIsNone(stepper.out())


class ManyTest(StoreTest):
    def test_2000_parts(self):
        many = procedure("p", *[set_("n", plus(var("n"), 1))] * 164, params=(("n", "int", "both"),))
        self.assertLessEqual(parts(many), 2000)
        self.assertGreater(parts(many), 1950)
        store = begun(*programs(many))
        self.assertEqual(run(store, "p", 0).results, (164,))

    def test_300_rows_and_30_things(self):
        kids = [table("c" + a, "of", references=(("r", ("of",), "p", "cascade", False),)) for a in "abcdefghij"]
        views = [("view", view("v" + a, "c" + a, ("of",), op("<", col("of"), 15))) for a in "abcdefghij"]
        calls = [procedure("q" + a, ("change", "v" + a, sets(of=col("of")), TRUE, None)) for a in "abcdefgh"]
        store = LoggedTimedStore.of(("table", table("p", "id", keys=(("id",),))), *tables(*kids), *views, *programs(*calls))
        begin = time.perf_counter()
        store.begin()
        for k in range(27):
            store.put("p", sets(id=k))
        for word in store.tables:
            if word != "p":
                store.fill(word, sets(of=col("id")), "p", TRUE)
        self.assertEqual(sum(len(list(store.rows(word))) for word in store.tables), 297)
        for word in store.programs:
            run(store, word)
        store.change("p", sets(id=plus(col("id"), 100)), TRUE)
        store.commit()
        self.assertTrue(LoggedTimedStore.recovered(store.log) == store)
        store.begin()
        store.take("p", TRUE)
        store.commit()
        self.assertEqual(sum(len(list(store.rows(word))) for word in store.tables), 0)
        self.assertLess(time.perf_counter() - begin, 30)

    def test_many_deeds_and_steps(self):
        loop = ("while", None, op("<", var("n"), 3000), (set_("n", plus(var("n"), 1)), block(
            put("t", a=var("n")), raise_("e"), handlers=(handler("e"),))))
        p = procedure("p", loop, ("take", "t", TRUE, None), variables=(variable("n", "int", 0),))
        store = begun(("table", T), *programs(p))
        before = store.copy()
        begin = time.perf_counter()
        stepper = Stepper(store, "p")
        many = 1
        while stepper.into() is not None:
            many += 1
        history = stepper.outcome().history
        self.assertEqual((many, len(history)), (3 + 3000 * 4, 3000 * 4 + 2))
        self.assertTrue(is_history(before, history, store))
        self.assertEqual(straight(history), ())
        self.assertLess(time.perf_counter() - begin, 30)

    def test_300_rows_and_30_things_looked_at(self):
        kids = [table("c" + a, "of", keys=(("of",),), references=(("r", ("of",), "p", "cascade", True),)) for a in "abcdefghij"]
        calls = [procedure("q" + a, ("change", "c" + a, sets(of=col("of")), TRUE, None), do("zz")) for a in "abcdefghij"]
        store = begun(("table", table("p", "id", keys=(("id",),))), *tables(*kids), *programs(*calls))
        before = store.copy()
        begin = time.perf_counter()
        for word in store.tables:
            for k in range(27):
                store.put(word, (("id" if word == "p" else "of", value(k)),))
        store.take("p", op("<", col("id"), 0))
        self.assertEqual((faults(store), len(stale(store))), ([], 10))
        self.assertTrue(is_history(before, store.journal, store))
        broken = replayed(store, tuple(("take", "p", n) for n, _ in store.rows("p")))
        self.assertEqual(len(faults(broken)), 270)
        self.assertLess(time.perf_counter() - begin, 30)

    def test_no_steps_that_grow_with_integers_in_histories(self):
        store = Store.of(("sequence", ("s", -(10 ** 30), 10 ** 30)), ("table", T))
        huge = 10 ** 99
        deeds = (("mark", huge), ("number", "s", -(10 ** 30)), ("number", "s", 0), ("put", "t", huge, (10 ** 30, None)), ("mark", huge + 1),
                 ("undo", huge + 1), ("free", huge))
        found = replayed(store, deeds)
        self.assertEqual((list(found.rows("t")), found.following("s")), ([(huge, (10 ** 30, None))], 10 ** 30))
        self.assertEqual(straight(deeds), deeds[1:4])
        self.fails(BadDeed, (0,), replayed, store, (("undo", huge),))
        self.assertFalse(is_history(store, (("mark", huge), ("undo", 10 * huge)), store))
        store = begun(*programs(procedure("p", ("look",))))
        self.assertIsNone(Stepper(store, "p", most=huge).until("p", (huge,)))

    def test_no_steps_that_grow_with_integers(self):
        store = LoggedTimedStore.of(("sequence", ("s", -(10 ** 30), 10 ** 30)), ("table", T), *programs(procedure("p", block(
            raise_("e", 1), handlers=(handler("e", set_("n", ("told", 10 ** 60, "int"))),)), variables=(variable("n"),))))
        store.begin()
        self.assertEqual([store.number("s") for _ in range(3)], [-(10 ** 30), 0, 10 ** 30])
        store.put("t", sets(a=op("mod", op("-", 0, 10 ** 30), 3)))
        run(store, "p", most=10 ** 90)
        self.assertIsNone(store.row("t", 10 ** 90))
        store.commit()
        text = store.log.replace('("put" "t" 0', '("put" "t" ' + "9" * 99)
        again = LoggedTimedStore.recovered(text)
        self.assertEqual(again.commits, 1)
