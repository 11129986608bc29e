"""The examples of DOC.md."""

from deedstore.errors import BadTree, Busy, NoText, Raised
from deedstore.histories import is_history, straight
from deedstore.kinds import kind_of
from deedstore.logged import LoggedStore
from deedstore.machines import run
from deedstore.programs import fault, stale
from deedstore.steppers import Stepper
from deedstore.stores import Store
from deedstore.trees import read_tree, write_tree
from tests.build import StoreTest


class ExampleTest(StoreTest):
    def test_trees_and_kinds(self):
        self.assertEqual(write_tree(("a", (1, -2, None), True)), '("a" (1 -2 -) yes)')
        self.assertEqual(read_tree('(() "a")'), ((), "a"))
        self.fails(NoText, (3,), read_tree, "(1  2)")
        self.fails(NoText, (2,), read_tree, "(01)")
        self.assertEqual(kind_of(("op", "<", ("col", "a"), ("var", "n")), {"a": "int"}, {"n": "int"}), "truth")
        self.fails(BadTree, ((3,), "name"), kind_of, ("op", "+", ("col", "a"), ("col", "c")), {"a": "int"}, {})

    def test_steps(self):
        inner = ("block", None, (("n", "int", ("value", 3)),), (("set", "n", ("value", 4)),), (), ())
        outer = ("block", None, (), (("do", "r", ()), ("look",)), (), ())
        store = Store.of(("program", ("procedure", "q", (), outer)), ("program", ("procedure", "r", (), inner)))
        store.begin()
        stepper = Stepper(store, "q")
        self.assertEqual([stepper.at, stepper.into(), stepper.into(), stepper.into()], [
            ("q", ()), ("q", (0, 0)), ("r", ()), ("r", (0, 0))])
        self.assertEqual(stepper.frames, (("q", (0, 0), ({}, {})), ("r", (0, 0), ({}, {"n": 3}))))
        self.fails(Busy, (), store.commit)
        self.assertEqual(stepper.out(), ("q", (0, 1)))
        self.assertEqual([stepper.over(), stepper.outcome().results], [None, ()])
        self.assertEqual(fault(store, ("procedure", "x", (), ("block", None, (), (("set", "n", ("value", 1)),), (), ()))),
                         ((0, 0), ("name", "n")))
        store.drop("r")
        self.assertEqual(stale(store), [("q", (0, 0), ("name", "r"))])

    def test_statements(self):
        shop = ("shop", (("no", "int", False, ("value", None)), ("name", "text", True, ("value", "-"))), (("no",),), (), ())
        plus = ("plus", ("op", "<", ("value", 0), ("col", "sum")))
        columns = (("of", "int", True, ("value", None)), ("sum", "int", False, ("value", 1)))
        sale = ("sale", columns, (), (plus,), (("to", ("of",), "shop", "cascade", False),))
        store = Store.of(("table", shop), ("table", sale))
        store.begin()
        self.assertEqual(store.put("shop", (("no", ("value", 1)),)), 1)
        self.assertEqual(store.put("shop", (("no", ("value", 2)), ("name", ("value", "two")))), 1)
        self.assertEqual(store.fill("sale", (("of", ("col", "no")),), "shop", ("value", True)), 2)
        self.assertEqual(store.change("shop", (("no", ("op", "+", ("col", "no"), ("value", 1))),), ("value", True)), 2)
        self.assertEqual([list(store.rows("shop")), list(store.rows("sale"))],
                         [[(0, (2, "-")), (1, (3, "two"))], [(2, (2, 1)), (3, (2, 1))]])
        self.fails(Raised, ("refer", ("sale", "to"), "", (), (), (), (), ()), store.put, "sale", (("of", ("value", 7)),))
        self.fails(Raised, ("check", ("sale", "plus"), "", (), (), (), (), ()), store.put, "sale", (("sum", ("value", 0)),))
        self.assertEqual(store.take("shop", ("op", "=", ("col", "no"), ("value", 2))), 1)
        self.assertEqual([list(store.rows("sale")), store.journal[-2:]], [[], (("take", "sale", 2), ("take", "sale", 3))])
        self.assertTrue(is_history(Store.of(("table", shop), ("table", sale)), store.journal, store))

    def test_a_handler(self):
        table = ("t", (("a", "int", False, ("value", None)),), (("a",),), (), ())
        one = ("put", "t", (("a", ("value", 1)),), None)
        five = ("put", "t", (("a", ("value", 5)),), None)
        handler = (("key",), (("set", "w", ("told", 0, "text")),))
        guard = ("block", None, (), (("set", "n", ("value", 1)), one, one), (handler,), ())
        params = (("n", "int", "out"), ("w", "text", "out"))
        store = Store.of(("table", table), ("program", ("procedure", "p", params, ("block", None, (), (guard, five), (), ()))))
        store.begin()
        self.assertEqual(run(store, "p").results, (1, "t"))
        self.assertEqual(list(store.rows("t")), [(2, (5,))])
        self.assertEqual(store.journal, (
            ("mark", 0), ("mark", 1), ("put", "t", 0, (1,)), ("undo", 1), ("free", 1), ("put", "t", 2, (5,)), ("free", 0)))
        self.assertEqual(straight(store.journal), (("put", "t", 2, (5,)),))

    def test_causes(self):
        handler = ((), (("raise", "two", ()),))
        block = ("block", None, (), (("raise", "one", (("value", 1),)),), (handler,), (("raise", "three", ()),))
        store = Store.of(("program", ("procedure", "f", (), block)))
        store.begin()
        history = (("mark", 0), ("mark", 1), ("undo", 1), ("free", 1), ("undo", 0), ("free", 0))
        trace = (
            ("enter", "f"), ("deed", ("mark", 0)), ("at", ()), ("deed", ("mark", 1)), ("at", (0, 0)), ("raise", "one"),
            ("deed", ("undo", 1)), ("deed", ("free", 1)), ("catch", (), 0), ("at", (1, 0)), ("raise", "two"), ("last", ()),
            ("at", (2, 0)), ("raise", "three"), ("leave", "signal"), ("deed", ("undo", 0)), ("deed", ("free", 0)))
        causes = (("two", (), "f", (1, 0)), ("one", (1,), "f", (0, 0)))
        self.fails(Raised, ("three", (), "f", (2, 0), (), causes, history, trace), run, store, "f")

    def test_a_log(self):
        store = LoggedStore()
        store.add_sequence(("s", 1, 1))
        store.begin()
        store.make(("table", ("t", (("a", "int", True, ("number", "s")),), (), (), ())))
        self.assertEqual([store.put("t", ()), store.number("s"), store.following("s")], [1, 2, 3])
        store.commit()
        self.assertEqual(store.log.split("\n")[:4], [
            '("sequence" ("s" 1 1))', '("lot" "s" 8)', '("begin" 1)', '("make" (("table" ("t" (("a" "int" yes ("number" "s"))) () () ()))))'])
        self.assertEqual(store.log.split("\n")[4], '("put" "t" 0 (1))')
        self.assertTrue(LoggedStore.recovered(store.log) == store)
        cut = LoggedStore.recovered(store.log[:-1])
        self.assertEqual([cut.tables, cut.commits, cut.following("s"), cut.log],
                         [(), 0, 9, '("sequence" ("s" 1 1))\n("lot" "s" 8)\n'])


class StraightTest(StoreTest):
    def test_straight(self):
        put, take, number = ("put", "t", 0, ()), ("take", "t", 0), ("number", "s", 5)
        for history, wanted in (
            ((), ()), ((put, take), (put, take)), ((put, number, take), (put, number, take)),
            ((("mark", 3), put, ("undo", 3), ("free", 3)), ()), ((("mark", 3), put, ("free", 3)), (put,)),
            ((number, ("mark", 0), put, number, ("mark", 1), number, take, ("undo", 0), ("undo", 0), put), (number, number, number, put)),
            ((("mark", 2), put, ("mark", 3), take, ("undo", 3), ("mark", 4), ("undo", 2), put, ("mark", 3), take, ("undo", 3)), (put,)),
            ((("mark", 0), put, ("free", 0), ("mark", 0), take, ("undo", 0)), (put,)),
            ((("mark", 0), ("mark", 1), ("undo", 0), put, ("mark", 1), take, ("undo", 1)), (put,)),
            ((("mark", 0), ("mark", 1), ("free", 1), put, ("mark", 1), take, ("undo", 1)), (put,)),
        ):
            self.assertEqual(straight(history=history), wanted)
