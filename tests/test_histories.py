"""Points 31 and 52: histories that are done again, and those that are right from one store to another."""

import random
import unittest

from deedstore.errors import BadDeed, Raised
from deedstore.histories import is_history, replayed, straight
from deedstore.logged import LoggedStore, LoggedTimedStore, TimedStore
from deedstore.machines import run
from deedstore.stores import Store
from tests.build import (
    TRUE, StoreTest, begun, block, col, column, do, equal, handler, plus, procedure,
    programs, put, raise_, sets, table, tables, trigger, unchanged, value, view,
)
from tests import test_random
from tests.helpers import nested
from tests.replay import Replay, Strict

T = table("t", "a", column("b", "text"))
U = table("u", column("f", "truth"))
ANY = (
    None, 5, -1, True, False, "", "put", 10 ** 99, (), [], {}, ("put",), ["put", "t", 0, (None, None)], (None,), ((),), (5, 6),
    ("look",), ("put", "t"), {"put": 1}, nested(19), [[[]]], (("mark", 0),), ("mark", 0, 0), ("undo",), ("free", None),
)


def a_store():
    """A store with two rows of t and one of u, and a sequence that gives 5 next."""
    store = begun(("sequence", ("s", 3, 2)), *tables(T, U), ("view", view("v", "t", ("a",))), *programs(procedure("p")))
    store.put("t", sets(a=1))
    store.put("t", sets(a=2, b="x"))
    store.put("u", ())
    store.number("s")
    store.commit()
    return store


class HistoryTest(StoreTest):
    def setUp(self):
        self.store = a_store()

    def does(self, *deeds):
        """All these deeds can be done; the store behind them."""
        before = unchanged(self.store)
        found = replayed(self.store, deeds)
        self.assertEqual(Strict(self.store).first_wrong(deeds), None)
        self.assertTrue(is_history(self.store, deeds, found))
        self.assertIs(type(found), Store)
        self.assertEqual(unchanged(self.store), before)
        return found

    def stops(self, *deeds, at=None):
        """The last of these deeds, or the one at this index, is the first that cannot be done."""
        index = len(deeds) - 1 if at is None else at
        self.fails(BadDeed, (index,), replayed, self.store, deeds)
        self.assertEqual(Strict(self.store).first_wrong(deeds), index)
        for after in (self.store, Store()):
            self.assertIs(is_history(self.store, deeds, after), False)


class RowTest(HistoryTest):
    def test_put(self):
        found = self.does(("put", "t", 3, (5, "y")), ("put", "u", 10 ** 40, (True,)), ("put", "t", 7, (None, None)))
        self.assertEqual(list(found.rows("t")), [(0, (1, None)), (1, (2, "x")), (3, (5, "y")), (7, (None, None))])
        self.assertEqual(list(found.rows("u")), [(2, (None,)), (10 ** 40, (True,))])
        for number in (0, 1, 2, -1, True, None, "3", (3,), [], 10 ** 40 * -1):
            self.stops(("put", "t", number, (5, "y")))
        for word in ("zz", "v", "s", "p", "", "T", None, 5, [], ("t",)):
            self.stops(("put", word, 3, (5, "y")))
        for row in ((), (5,), (5, "y", None), ("5", "y"), (5, 6), (True, "y"), (5, True), [5, "y"], None, (5, ["y"]), (5, ("y",)),
                    (10 ** 30 + 1, "y"), (5, "y" * 41), (5, "\n"), (5, "%"), (5.0, "y"), ((), None), {}):
            self.stops(("put", "t", 3, row))
        for row in ((1,), (0,), ("x",), (True, False)):
            self.stops(("put", "u", 3, row))
        self.stops(("put", "t", 3), at=0)
        self.stops(("put", "t", 3, (5, "y"), None))
        self.stops(("put", "t", 3, (5, "y")), ("put", "u", 3, (None,)))

    def test_what_does_not_hold_is_not_asked(self):
        t = table("k", column("a", "int", False), keys=(("a",),), checks=(("c", equal(1, 2)),),
                  references=(("r", ("a",), "k", "cascade", False),))
        self.store.begin()
        self.store.make(("table", t))
        found = self.does(("put", "k", 3, (7,)), ("put", "k", 4, (7,)), ("put", "k", 5, (None,)), ("take", "k", 3))
        self.assertEqual(list(found.rows("k")), [(4, (7,)), (5, (None,))])

    def test_no_triggers_and_cascades(self):
        self.store.begin()
        self.store.make(*programs(trigger("g", "t", "after", "put", put("u")), trigger("h", "t", "before", "put", ("skip",))))
        found = self.does(("put", "t", 3, (5, "y")))
        self.assertEqual(list(found.rows("u")), [(2, (None,))])
        self.assertEqual(found.row("t", 3), (5, "y"))

    def test_change(self):
        found = self.does(("change", "t", 0, (9, "z")), ("change", "t", 0, (9, "z")), ("change", "u", 2, (False,)))
        self.assertEqual((list(found.rows("t")), found.row("u", 2)), ([(0, (9, "z")), (1, (2, "x"))], (False,)))
        for number in (2, 3, -1, False, None, "0", [], 10 ** 99):
            self.stops(("change", "t", number, (5, "y")))
        for word in ("u", "zz", "v", "s", "p", None, [], ("t",)):
            self.stops(("change", word, 0, (5, "y")))
        for row in ((), (5,), ("5", "y"), [5, "y"], None, (5, "y", 1)):
            self.stops(("change", "t", 0, row))
        self.stops(("take", "t", 0), ("change", "t", 0, (5, "y")))

    def test_take(self):
        found = self.does(("take", "t", 0), ("take", "u", 2), ("put", "u", 0, (True,)))
        self.assertEqual((list(found.rows("t")), list(found.rows("u"))), ([(1, (2, "x"))], [(0, (True,))]))
        for number in (2, 3, -1, False, None, "0", []):
            self.stops(("take", "t", number))
        for word in ("u", "zz", "v", None, [], ("t",)):
            self.stops(("take", word, 0))
        self.stops(("take", "t", 0), ("take", "t", 0))
        self.stops(("take", "t", 0, (1, None)))
        self.stops(("take", "t"))

    def test_numbers(self):
        found = self.does(("number", "s", 5), ("number", "s", 7))
        self.assertEqual((found.following("s"), self.store.following("s")), (9, 5))
        for given in (3, 4, 6, 7, -5, None, True, "5", (5,), [], 10 ** 99):
            self.stops(("number", "s", given))
        for word in ("t", "zz", "p", "v", "", None, 5, [], ("s",)):
            self.stops(("number", word, 5))
        self.stops(("number", "s", 5), ("number", "s", 5))
        self.stops(("number", "s"))
        self.stops(("number", "s", 5, 5))

    def test_numbers_beyond_the_values(self):
        self.store.add_sequence(("r", 10 ** 30, 1))
        self.does(("number", "r", 10 ** 30))
        self.stops(("number", "r", 10 ** 30), ("number", "r", 10 ** 30 + 1))
        self.store.add_sequence(("one", 1, 1))
        self.stops(("number", "one", True))


class CatalogueTest(HistoryTest):
    def test_make(self):
        w = table("w", "x", references=())
        found = self.does(("make", (("table", w), ("view", view("x", "w", ("x",))), ("program", procedure("q", do("zz"))))), ("put", "w", 3, (1,)))
        self.assertEqual((found.tables, found.views, found.programs), (("t", "u", "w"), ("v", "x"), ("p", "q")))
        self.assertEqual(list(found.rows("x")), [(3, (1,))])
        for things in (
            (), None, 5, [("table", w)], ("table", w), (w,), (("table", w, 1),), (("table", T),), (("table", w), ("table", w)),
            (("view", w),), (("sequence", ("r", 1, 1)),), (("view", view("x", "zz", ("x",))),), (["table", w],), (("table", list(w)),),
            (("program", ("procedure", "q", (), None)),), (("table", table("w", "x", "x")),), (("program", procedure("t")),),
        ):
            self.stops(("make", things))
        self.stops(("make", (("table", w),)), ("make", (("table", w),)))
        self.stops(("make",))
        self.stops(("make", (("table", w),), ()))

    def test_drop(self):
        found = self.does(("take", "u", 2), ("drop", ("u", "p")), ("drop", ("v",)))
        self.assertEqual((found.tables, found.views, found.programs, found.row("u", 2)), (("t",), (), (), None))
        for words in ((), None, "p", ["p"], ("zz",), ("s",), ("p", "p"), ("p", "zz"), (None,), (5,), (["p"],), (("p",),), ("P",)):
            self.stops(("drop", words))
        # Tables without rows only, and nothing that another one names.
        self.stops(("drop", ("u",)))
        self.stops(("drop", ("t", "v")))
        self.stops(("take", "t", 0), ("take", "t", 1), ("drop", ("t",)))
        self.does(("take", "t", 0), ("take", "t", 1), ("drop", ("t", "v")))
        self.stops(("drop",))
        self.stops(("drop", ("p",), ("p",)))
        self.stops(("drop", ("p",)), ("drop", ("p",)))

    def test_what_is_made_again(self):
        other = table("u", "g")
        found = self.does(("take", "u", 2), ("drop", ("u",)), ("make", (("table", other),)), ("put", "u", 2, (4,)))
        self.assertEqual((found.thing("u"), found.row("u", 2)), (other, (4,)))
        self.stops(("take", "u", 2), ("drop", ("u",)), ("make", (("table", other),)), ("put", "u", 2, (True,)))


class MarkTest(HistoryTest):
    def test_undo_and_free(self):
        found = self.does(
            ("mark", 0), ("put", "t", 5, (1, None)), ("mark", 1), ("take", "t", 0), ("number", "s", 5), ("drop", ("p",)), ("undo", 1),
            ("mark", 2), ("change", "t", 1, (8, None)), ("undo", 1), ("undo", 1), ("mark", 2), ("free", 2), ("mark", 2), ("free", 1),
            ("put", "u", 6, (None,)), ("free", 0))
        self.assertEqual(list(found.rows("t")), [(0, (1, None)), (1, (2, "x")), (5, (1, None))])
        # Numbers that were given are not given again.
        self.assertEqual((found.programs, found.following("s")), (("p",), 7))
        self.assertEqual(list(found.rows("u")), [(2, (None,)), (6, (None,))])

    def test_the_first_mark_may_have_any_number(self):
        for k in (0, 1, 7, 10 ** 99):
            found = self.does(("mark", k), ("take", "t", 0), ("mark", k + 1), ("take", "t", 1), ("undo", k + 1), ("free", k), ("mark", k))
            self.has_rows(found, "t", (2, "x"))
            self.stops(("mark", k), ("mark", k))
            self.stops(("mark", k), ("mark", k + 2))
            self.stops(("mark", k), ("free", k), ("mark", k + 1))
            self.stops(("mark", k), ("undo", k + 1))
            self.stops(("mark", k), ("undo", k - 1))
            self.stops(("mark", k), ("mark", k + 1), ("free", k), ("undo", k))
            self.stops(("mark", k), ("free", k), ("free", k))
            self.stops(("mark", k), ("mark", k + 1), ("undo", k), ("free", k + 1))
        for k in (-1, -(10 ** 99), True, False, None, "0", (0,), []):
            self.stops(("mark", k))
            self.stops(("mark", 0), ("mark", k))
            self.stops(("mark", 0), ("undo", k))
            self.stops(("mark", 0), ("free", k))
        for head in ("undo", "free"):
            self.stops((head, 0))
            self.stops((head, None))

    def test_marks_of_the_store_are_not_those_of_the_history(self):
        self.store.begin()
        self.store.mark()
        self.store.take("t", TRUE)
        self.store.mark()
        self.stops(("undo", 0))
        self.stops(("free", 1))
        found = self.does(("mark", 0), ("put", "t", 9, (4, None)), ("undo", 0), ("free", 0))
        self.has_rows(found, "t")
        self.store.undo(0)
        self.assertEqual(self.store.mark(), 1)

    def test_rows_of_a_table_that_comes_again(self):
        found = self.does(("mark", 4), ("take", "u", 2), ("drop", ("u",)), ("put", "t", 2, (5, None)), ("undo", 4))
        self.assertEqual((list(found.rows("u")), found.row("t", 2)), ([(2, (None,))], None))
        self.assertTrue(found == self.store)


class ValueTest(HistoryTest):
    def test_any_deeds(self):
        for x in ANY:
            if x != ("mark", 0):
                self.stops(x)
                self.stops(("put", "t", 3, (None, None)), x, ("take", "t", 99), at=1)

    def test_any_histories(self):
        right = (("put", "t", 3, (None, None)),)
        after = replayed(self.store, right)
        self.assertIs(is_history(self.store, right, after), True)
        for x in ANY + (list(right), {right[0]: 1}, right[0], (list(right[0]),), right + (None,), (right,), "abc"):
            if x not in ((), (("mark", 0),)):
                self.assertIs(is_history(self.store, x, after), False)
                self.assertIs(is_history(self.store, x, self.store), False)
        self.assertIs(is_history(store=self.store, history=right, after=after), True)

    def test_any_stores_after(self):
        for x in ANY + (self.store.core, Store):
            self.assertIs(is_history(self.store, (), x), False)
            self.assertIs(is_history(self.store, None, x), False)

    def test_the_empty_history(self):
        self.assertTrue(self.does() == self.store)
        self.assertIs(is_history(self.store, (), self.store), True)
        self.assertIs(is_history(self.store, (), Store()), False)
        self.assertIs(is_history(Store(), (), Store()), True)
        self.assertEqual(straight(()), ())

    def test_the_store_after(self):
        deeds = (("change", "t", 0, (4, None)), ("number", "s", 5))
        wanted = replayed(self.store, deeds)
        for change in (
            lambda s: s.put("t", ()), lambda s: s.take("t", equal(col("a"), 2)), lambda s: s.change("t", sets(b="x"), TRUE),
            lambda s: s.drop("p"), lambda s: s.make(*programs(procedure("q"))), lambda s: s.drop("v"),
        ):
            other = wanted.copy()
            other.begin()
            change(other)
            self.assertIs(is_history(self.store, deeds, other), False)
        # Sequences are things, but what they give next is not asked, nor are commits.
        other = wanted.copy()
        other.begin()
        other.number("s")
        other.commit()
        self.assertIs(is_history(self.store, deeds, other), True)
        other.add_sequence(("r", 1, 1))
        self.assertIs(is_history(self.store, deeds, other), False)

    def test_rows_with_other_numbers(self):
        other = replayed(self.store, (("take", "t", 0), ("put", "t", 9, (1, None))))
        self.assertIs(is_history(self.store, (), other), False)
        self.assertIs(is_history(self.store, (("take", "t", 0), ("put", "t", 8, (1, None))), other), False)

    def test_each_class_of_stores(self):
        for kind in (Store, LoggedStore, TimedStore, LoggedTimedStore):
            store = kind.of(("table", T))
            store.begin()
            store.put("t", ())
            found = replayed(store, (("put", "t", 1, (5, None)),))
            self.assertIs(type(found), Store)
            self.assertEqual((found.commits, found.journal), (1, ()))
            self.has_rows(found, "t", (None, None), (5, None))
            self.assertIs(is_history(store, (("put", "t", 1, (5, None)),), found), True)
            # It has no transaction, and can go on.
            found.begin()
            found.put("t", sets(a=8))
            found.commit()
            self.assertEqual((found.commits, found.row("t", 2)), (2, (8, None)))
            self.assertEqual((store.commits, len(store.journal)), (1, 1))

    def test_row_numbers_that_follow(self):
        for deeds, number in (((), 3), ((("put", "t", 3, (None, None)),), 4), ((("put", "t", 20, (None, None)), ("take", "t", 20)), 21),
                              ((("mark", 0), ("put", "t", 50, (None, None)), ("undo", 0)), 51)):
            found = self.does(*deeds)
            found.begin()
            found.put("u", ())
            self.assertEqual(found.journal, (("put", "u", number, (None,)),))


class CallTest(HistoryTest):
    """The histories of calls make the store behind out of the store before."""

    def has_history(self, store, action):
        before = store.copy()
        try:
            history = action().history
        except Raised as raised:
            history = raised.history
        self.assertTrue(is_history(before, history, store))
        self.assertTrue(replayed(before, history) == store)
        self.assertFalse(is_history(before, history + (("put", "t", 99, (None, None)),), store))
        self.assertEqual(straight(straight(history)), straight(history))
        self.assertTrue(is_history(before, straight(history), store))
        return history

    def test_calls(self):
        guard = block(put("t", a=5), ("make", procedure("q")), raise_("e"), handlers=(handler("e", put("t", a=6)),))
        for marks in range(3):
            for body in ((guard, put("t", a=("number", "s"))), (guard, raise_("x", 1)), (), (("take", "t", TRUE, None),),
                         (("mark", "m"), put("t"), ("back", "m"), put("t"), ("mark", "m"), ("drop", "p"))):
                store = a_store()
                store.begin()
                store.make(*programs(procedure("c", *body)))
                for _ in range(marks):
                    store.mark()
                history = self.has_history(store, lambda: run(store, "c"))
                self.assertEqual((history[0], history[-1]), (("mark", marks), ("free", marks)))

    def test_a_journal(self):
        store = a_store()
        before = store.copy()
        store.begin()
        store.mark()
        store.put("t", sets(a=("number", "s")))
        store.mark()
        store.drop("u", "v")
        store.undo(1)
        store.change("t", sets(a=plus(col("a"), 1)), TRUE)
        store.free(0)
        self.signals("division", (), store.put, "t", sets(a=("op", "div", ("number", "s"), value(0))))
        store.drop("u")
        self.assertTrue(is_history(before, store.journal, store))
        self.assertTrue(is_history(before, straight(store.journal), store))
        self.assertFalse(is_history(before, store.journal[1:], store))


class ChangedTest(unittest.TestCase):
    """Histories of which some deed is another one are right just if the document says so."""

    def histories(self):
        for seed in range(25):
            store = test_random.HistoryTest().store(seed)
            store.begin()
            test_random.outcome_of(store, "q")
            before = store.copy()
            test_random.outcome_of(store, "p")
            yield seed, before, store.journal[len(before.journal):], store
        store = a_store()
        before = store.copy()
        store.begin()
        store.mark()
        store.make(("table", table("w", "x")), ("view", view("x", "w", ("x",))))
        store.mark()
        store.put("w", sets(x=("number", "s")))
        store.put("t", sets(a=9))
        store.undo(1)
        store.drop("x", "w")
        store.mark()
        store.take("t", equal(col("a"), 1))
        store.free(1)
        store.drop("u", "p")
        yield 99, before, store.journal, store

    def changed(self, deed, chance):
        """The deed with some part otherwise."""
        parts = list(deed)
        k = chance.randrange(1, len(parts))
        part = parts[k]
        if isinstance(part, bool) or part is None:
            parts[k] = 5
        elif isinstance(part, int):
            parts[k] = chance.choice((part + 1, part - 1, -1, True, 0, 99))
        elif isinstance(part, str):
            parts[k] = chance.choice(("t", "u", "s", "v", "zz"))
        elif deed[0] in ("make", "drop"):
            parts[k] = chance.choice(((), part + part, part[1:], part + ("t",), part[::-1]))
        else:
            parts[k] = chance.choice((part[1:], part + (None,), ("x",) * len(part), (None,) * len(part), (True,) * len(part)))
        return tuple(parts)

    def others(self, history, chance):
        """Histories that differ in one deed."""
        for k in range(len(history)):
            yield history[:k] + history[k + 1:]
            yield history[:k + 1] + history[k:]
            yield history[:k] + history[k:k + 2][::-1] + history[k + 2:]
            yield history[:k] + (self.changed(history[k], chance),) + history[k + 1:]

    def test_changed_histories(self):
        right = wrong = 0
        for seed, before, history, after in self.histories():
            chance = random.Random(seed)
            several = list(self.others(history, chance))
            for other in chance.sample(several, min(40, len(several))):
                strict = Strict(before)
                index = strict.first_wrong(other)
                if index is None:
                    right += 1
                    found = replayed(before, other)
                    self.assertEqual(Replay(found).state(), strict.state())
                    same = strict.state()[:2] == Replay(after).state()[:2]
                    self.assertIs(is_history(before, other, after), same)
                    self.assertTrue(is_history(before, straight(other), found))
                else:
                    wrong += 1
                    with self.assertRaises(BadDeed) as caught:
                        replayed(before, other)
                    self.assertEqual(caught.exception.index, index)
                    self.assertIs(is_history(before, other, after), False)
        self.assertGreater(right, 100)
        self.assertGreater(wrong, 300)


if __name__ == "__main__":
    unittest.main()
