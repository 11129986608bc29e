"""Points 10, 34, 42, 43 and 55: programs looked at, and stale ones."""

import random
import unittest

from deedstore.errors import BadThing, Stale
from deedstore.logged import LoggedStore, LoggedTimedStore, TimedStore
from deedstore.machines import run
from deedstore.programs import fault, stale
from deedstore.stores import Store
from deedstore.trees import is_bounded, read_tree, write_tree
from tests.build import (
    FALSE, NULL, TRUE, StoreTest, begun, block, col, column, do, function, handler, plus, procedure,
    programs, put, raise_, set_, table, trigger, unchanged, value, var, variable, view,
)
from tests.helpers import nested, same
from tests.makers import VARIABLES, StoreMaker

T = table("t", "a")

# Statements that are wrong by themselves, whatever is around them, with their faults.
WRONG = (
    (set_("zz", 1), ("name", "zz")), (put("zy"), ("name", "zy")), (do("zx"), ("name", "zx")), (raise_("e", col("zw")), ("name", "zw")),
    (raise_("e", plus(1, "x")), ("kind", "raise")), (("if", ((value(1), ()),), ()), ("kind", "if")), (("while", None, value("x"), ()), ("kind", "while")),
    (("doby", value(1), ()), ("kind", "doby")), (("leave", "zl"), ("label", "zl")), (("next", "zn"), ("label", "zn")),
    (block(variables=(variable("a"), variable("a"))), ("twice", "a")), (("return", value(1)), ("return", "return")),
    (("skip",), ("trigger", "skip")), (("new", "a", NULL), ("trigger", "new")), (block(variables=(variable("q", "int", "x"),)), ("kind", "block")),
)


class FormTest(StoreTest):
    def test_any_values(self):
        for x in (None, 5, -(10 ** 99), True, "p", "", (), [], {}, ("procedure",), ["procedure", "p", (), block()], {"procedure": "p"},
                  nested(19), ("x",), (("procedure",),), (5, 6, 7, 8), ("procedure", None, (), block()), ("procedure", [], (), block()),
                  ("function", ("p",), (), "int", block()), (None, "P"), ([], {})):
            self.fails(BadThing, ("form", None), fault, Store(), x)
        for x in (("procedure", "p"), ("procedure", "p", (), None), ("x", "p"), (None, "p", [], {}), ([], "p"), ("procedure", "p", [], block()),
                  ("procedure", "p", (), list(block())), ("function", "p", (), "x", block()), ("trigger", "p", "t", "before", "put", []),
                  ("procedure", "p", (), block(set_("n", 10 ** 99))), ("procedure", "p", (), block(raise_("e", "x" * 41)))):
            self.fails(BadThing, ("form", "p"), fault, Store(), x)
        self.fails(BadThing, ("form", None), fault, store=Store(), program=None)

    def test_beyond_the_bounds(self):
        deep = procedure("p", set_("n", nested(40, TRUE)))
        self.fails(BadThing, ("form", "p"), fault, Store(), deep)
        wide = procedure("p", *[("look",)] * 999)
        self.assertFalse(is_bounded(wide))
        self.fails(BadThing, ("form", "p"), fault, Store(), wide)
        # The form of the whole goes ahead of the first fault.
        self.fails(BadThing, ("form", "p"), fault, Store(), procedure("p", set_("zz", 1), ("none",)))


class AskTest(StoreTest):
    def test_an_example(self):
        p = procedure("p", set_("n", 1))
        store = Store()
        for _ in range(2):
            self.assertEqual(fault(store, p), ((0, 0), ("name", "n")))
            self.assertIsNone(fault(store, procedure("p", set_("n", 1), variables=(variable("n"),))))
        self.assertEqual((store.programs, stale(store)), ((), []))

    def test_against_each_store(self):
        p = procedure("p", put("t", a=1))
        for kind in (Store, LoggedStore, TimedStore, LoggedTimedStore):
            self.assertIsNone(fault(kind.of(("table", T)), p))
            self.assertEqual(fault(kind(), p), ((0, 0), ("name", "t")))
            self.assertEqual(fault(kind.of(("table", table("t", column("a", "text")))), p), ((0, 0), ("kind", "put")))
            self.assertEqual(fault(kind.of(("table", table("t", "b"))), p), ((0, 0), ("name", "a")))
            self.assertEqual(fault(kind.of(("sequence", ("t", 1, 1))), p), ((0, 0), ("name", "t")))

    def test_what_calls_itself(self):
        # A program is there for itself only if it is in the store.
        p = procedure("p", do("p"))
        self.assertEqual(fault(Store(), p), ((0, 0), ("name", "p")))
        self.assertIsNone(fault(Store.of(*programs(p)), p))
        f = function("f", ("return", ("call", "f", ())))
        self.assertEqual(fault(Store(), f), ((0, 0), ("name", "f")))
        self.assertIsNone(fault(Store.of(*programs(f)), f))

    def test_it_is_not_looked_at_what_others_are(self):
        store = Store.of(*programs(procedure("q", do("zz"))))
        self.assertIsNone(fault(store, procedure("p", do("q"))))
        self.assertIsNone(fault(store, procedure("p", ("make", procedure("q", do("zz"))))))

    def test_changes_of_the_present_transaction(self):
        p = procedure("p", put("t"))
        store = Store()
        store.begin()
        store.mark()
        store.make(("table", T))
        self.assertIsNone(fault(store, p))
        store.undo(0)
        self.assertEqual(fault(store, p), ((0, 0), ("name", "t")))


class TwoFaultsTest(StoreTest):
    def test_in_each_order(self):
        for first, told in WRONG:
            for second, _ in WRONG:
                for program, place in (
                    (procedure("p", first, second), (0, 0)), (procedure("p", ("look",), first, block(second)), (0, 1)),
                    (procedure("p", block(first), second), (0, 0, 0, 0)), (procedure("p", first, last=(second,)), (0, 0)),
                    (procedure("p", ("if", ((TRUE, (first,)), (FALSE, (second,))), ())), (0, 0, 0, 0)),
                    (procedure("p", ("if", ((TRUE, ()),), (first,)), second), (0, 0, 1, 0)),
                    (procedure("p", ("while", None, TRUE, (first, second))), (0, 0, 0, 0)),
                    (procedure("p", handlers=(handler("x", first), handler("", second))), (1, 0)),
                    (procedure("p", handlers=(handler(""), handler("", first)), last=(second,)), (2, 0)),
                    (procedure("p", second, variables=(variable("n", "int", "x"),)), ()),
                ):
                    self.assertEqual(fault(Store(), program), (place, told if place else ("kind", "block")))

    def test_within_each_other(self):
        for inner, _ in WRONG:
            for outer, told in (
                (("if", ((var("zz"), (inner,)),), ()), ("name", "zz")), (("if", ((TRUE, (inner,)), (value(1), ())), ()), ("kind", "if")),
                (("while", None, plus(1, 1), (inner,)), ("kind", "while")), (("each", None, "zz", "t", TRUE, (inner,)), ("name", "zz")),
                (block(inner, variables=(variable("a", "int", var("zz")),)), ("name", "zz")),
                (block(inner, last=(inner,), variables=(variable("a"), variable("a"))), ("twice", "a")),
            ):
                self.assertEqual(fault(Store(), procedure("p", ("look",), outer)), ((0, 1), told))


class RandomTest(unittest.TestCase):
    """Wrong statements that are put into right programs: the one with the first place is told."""

    def lists(self, statement, place):
        """The places of all lists of statements within this one."""
        if statement[0] == "if":
            parts = [part[1] for part in statement[1]] + [statement[2]]
        elif statement[0] in ("while", "each"):
            parts = [statement[-1]]
        elif statement[0] == "block":
            parts = [statement[3], *[part[1] for part in statement[4]], statement[5]]
        else:
            parts = []
        for k, statements in enumerate(parts):
            yield (*place, k), statements
            for at, inner in enumerate(statements):
                yield from self.lists(inner, (*place, k, at))

    def with_statement(self, statement, path, wrong):
        """The statement with a wrong one in front of the one that path leads to."""
        k, at, *rest = path
        if statement[0] == "if" and k < len(statement[1]):
            c, statements = statement[1][k]
            branches = statement[1][:k] + ((c, self.inserted(statements, at, rest, wrong)),) + statement[1][k + 1:]
            return ("if", branches, statement[2])
        if statement[0] == "block" and 0 < k <= len(statement[4]):
            words, statements = statement[4][k - 1]
            handlers = statement[4][:k - 1] + ((words, self.inserted(statements, at, rest, wrong)),) + statement[4][k:]
            return statement[:4] + (handlers,) + statement[5:]
        part = {"block": 5 if k else 3, "if": 2, "while": 3, "each": 5}[statement[0]]
        return statement[:part] + (self.inserted(statement[part], at, rest, wrong),) + statement[part + 1:]

    def inserted(self, statements, at, rest, wrong):
        if not rest:
            return statements[:at] + (wrong,) + statements[at:]
        return statements[:at] + (self.with_statement(statements[at], rest, wrong),) + statements[at + 1:]

    def test_the_first_place(self):
        many = 0
        for seed in range(120):
            maker = StoreMaker(seed)
            chance = random.Random(seed)
            store = Store.of(*maker.THINGS, *programs(maker.function(), procedure("q"), procedure("p")))
            program = maker.bounded(lambda: procedure("p", *maker.statements(3), variables=VARIABLES))
            self.assertIsNone(fault(store, program))
            for _ in range(8):
                (one, told), (two, other) = chance.sample(WRONG, 2)
                places = list(self.lists(program[3], ()))
                where, statements = chance.choice(places)
                first = (*where, chance.randrange(len(statements) + 1))
                body = self.with_statement(program[3], first, one)
                if is_bounded(("procedure", "p", (), body)):
                    self.assertEqual(fault(store, ("procedure", "p", (), body)), (first, told))
                where, statements = chance.choice([part for part in self.lists(body, ()) if part[0][:len(first)] != first])
                second = (*where, chance.randrange(len(statements) + 1))
                body = self.with_statement(body, second, two)
                if second[:-1] == first[:len(second) - 1] and second[-1] <= first[len(second) - 1]:
                    # The first one stands behind it in the same list, or within such a statement.
                    first = (*second[:-1], first[len(second) - 1] + 1, *first[len(second):])
                if is_bounded(("procedure", "p", (), body)):
                    many += 1
                    wanted = (first, told) if first < second else (second, other)
                    self.assertEqual(fault(store, ("procedure", "p", (), body)), wanted, (seed, body))
        self.assertGreater(many, 400)


class TextTest(StoreTest):
    def test_programs_as_texts(self):
        for seed in range(40):
            maker = StoreMaker(seed)
            p = maker.bounded(lambda: procedure("p", *maker.statements(3), variables=VARIABLES))
            f = maker.function()
            again = read_tree(write_tree(p))
            self.assertTrue(same(again, p))
            store = begun(*maker.THINGS, *programs(f, procedure("q"), p))
            other = begun(*maker.THINGS, *programs(read_tree(write_tree(f)), procedure("q"), again))
            self.assertTrue(store == other)
            self.assertEqual(fault(store, again), None)
            store.drop("p")
            store.make(*programs(again))
            self.assertTrue(store == other)

    def test_true_is_not_1(self):
        # The text tells them apart, and so does a look at the program.
        right, wrong = procedure("p", ("if", ((TRUE, ()),), ())), procedure("p", ("if", ((value(1), ()),), ()))
        self.assertNotEqual(write_tree(right), write_tree(wrong))
        store = begun(*programs(right))
        self.assertIsNone(fault(store, right))
        self.assertEqual(fault(store, wrong), ((0, 0), ("kind", "if")))
        store.drop("p")
        store.make(*programs(wrong))
        self.assertEqual(stale(store), [("p", (0, 0), ("kind", "if"))])
        self.fails(Stale, ("p", (0, 0), ("kind", "if")), run, store, "p")
        store.drop("p")
        store.make(*programs(right))
        self.assertEqual(stale(store), [])
        run(store, "p")


class StaleTest(StoreTest):
    def store(self):
        return begun(("sequence", ("s", 1, 1)), ("table", T), ("view", view("v", "t", ("a",))), *programs(
            trigger("d", "t", "after", "put", do("b")), procedure("b", put("t", a=("call", "c", ()))),
            function("c", ("return", ("count", "v", TRUE))), procedure("a"), trigger("e", "t", "before", "put", ("new", "a", value(1)))))

    def test_by_words(self):
        store = self.store()
        self.assertEqual(stale(store), [])
        store.mark()
        store.drop("c")
        self.assertEqual(stale(store), [("b", (0, 0), ("name", "c"))])
        store.drop("b", "v")
        self.assertEqual(stale(store=store), [("d", (0, 0), ("name", "b"))])
        store.undo(0)
        self.assertEqual(stale(store), [])
        store.drop("v")
        self.assertEqual(stale(store), [("c", (0, 0), ("name", "v"))])
        store.drop("t")
        self.assertEqual(stale(store), [
            ("b", (0, 0), ("name", "t")), ("c", (0, 0), ("name", "v")), ("d", (), ("name", "t")), ("e", (), ("name", "t"))])

    def test_a_new_list(self):
        store = self.store()
        store.drop("b")
        before = unchanged(store)
        found = stale(store)
        found.clear()
        self.assertEqual(stale(store), [("d", (0, 0), ("name", "b"))])
        self.assertEqual(unchanged(store), before)

    def test_each_is_the_fault_of_its_tree(self):
        store = self.store()
        store.drop("t", "v", "b")
        told = {word: (place, found) for word, place, found in stale(store)}
        for word in store.programs:
            self.assertEqual(fault(store, store.thing(word)), told.get(word))

    def test_other_params_and_kinds(self):
        store = begun(("table", T), *programs(procedure("p", do("q", value(1)), set_("n", ("call", "f", ())), variables=(variable("n"),)),
                                              procedure("q", params=(("k", "int", "in"),)), function("f", ("return", NULL))))
        for other, told in (
            (procedure("q", params=(("k", "text", "in"),)), ("kind", "do")), (procedure("q", params=(("k", "int", "out"),)), ("kind", "do")),
            (procedure("q"), ("kind", "do")), (function("q", ("return", NULL)), ("name", "q")), (procedure("q", params=(("zz", "int", "in"),)), None),
        ):
            store.drop("q")
            store.make(*programs(other))
            self.assertEqual(stale(store), [] if told is None else [("p", (0, 0), told)])
        store.drop("f")
        store.make(*programs(function("f", ("return", NULL), kind="truth")))
        self.assertEqual(stale(store), [("p", (0, 1), ("kind", "set"))])

    def test_behind_rollbacks_and_in_copies(self):
        store = self.store()
        store.drop("v")
        copy = store.copy()
        store.rollback()
        self.assertEqual((stale(store), stale(copy)), ([], [("c", (0, 0), ("name", "v"))]))
        copy.commit()
        self.assertEqual(stale(copy), [("c", (0, 0), ("name", "v"))])

    def test_recovered_stores(self):
        store = LoggedTimedStore.of(("table", T), *programs(procedure("p", put("t"))))
        store.begin()
        store.drop("t")
        store.commit()
        self.assertEqual(stale(LoggedTimedStore.recovered(store.log)), [("p", (0, 0), ("name", "t"))])
        self.assertEqual(stale(store.behind(1)), [])

    def test_kinds_are_static(self):
        # A branch that never runs, and a value that is NULL.
        p = procedure("p", ("if", ((FALSE, (set_("n", "x"),)),), ()), variables=(variable("n"),))
        self.assertEqual(fault(Store(), p), ((0, 0, 0, 0), ("kind", "set")))
        p = procedure("p", set_("n", ("case", FALSE, value("x"), NULL)), variables=(variable("n"),))
        self.assertEqual(fault(Store(), p), ((0, 0), ("kind", "set")))
        self.assertIsNone(fault(Store(), procedure("p", set_("n", ("case", FALSE, NULL, NULL)), variables=(variable("n"),))))


if __name__ == "__main__":
    unittest.main()
