"""Points 4, 30, 33 and 52: the journal, marks, undo and free of a store."""

from deedstore.errors import NoMark, NoTransaction, Unknown
from deedstore.stores import Store
from tests.build import TRUE, StoreTest, begun, col, plus, procedure, sets, table, unchanged, view

T = table("t", "a")


class JournalTest(StoreTest):
    def test_deed_by_deed(self):
        store = begun(("sequence", ("s", 5, 5)), ("table", T))
        view_v, p = ("view", view("v", "t", ("a",))), ("program", procedure("p"))
        store.put("t", sets(a=("number", "s")))
        store.mark()
        store.change("t", sets(a=2), TRUE)
        store.make(view_v, p)
        store.mark()
        store.number("s")
        store.drop("p")
        store.undo(1)
        store.put("v", sets(a=3))
        store.free(1)
        store.take("t", TRUE)
        store.undo(0)
        store.free(0)
        self.assertEqual(store.journal, (
            ("number", "s", 5), ("put", "t", 0, (5,)), ("mark", 0), ("change", "t", 0, (2,)),
            ("make", (view_v, p)), ("mark", 1), ("number", "s", 10), ("drop", ("p",)), ("undo", 1),
            ("put", "t", 1, (3,)), ("free", 1), ("take", "t", 0), ("take", "t", 1), ("undo", 0), ("free", 0)))
        self.assertEqual(list(store.rows("t")), [(0, (5,))])
        self.assertEqual((store.views, store.programs), ((), ()))
        store.commit()
        self.assertEqual(store.journal, ())

    def test_it_is_a_new_tuple(self):
        store = begun(("table", T))
        before = store.journal
        store.put("t", ())
        self.assertEqual((before, len(store.journal)), ((), 1))
        self.assertIs(type(store.journal), tuple)

    def test_without_transaction(self):
        store = Store.of(("table", T))
        self.assertEqual(store.journal, ())
        store.begin()
        store.mark()
        store.rollback()
        self.assertEqual(store.journal, ())
        store.begin()
        # Marks have ended, too.
        self.fails(NoMark, (0,), store.undo, 0)
        self.assertEqual(store.mark(), 0)


class MarkTest(StoreTest):
    def setUp(self):
        self.store = begun(("table", T))

    def put(self, *given):
        for a in given:
            self.store.put("t", sets(a=a))

    def values(self):
        return [row[0] for _, row in self.store.rows("t")]

    def test_undo_twice(self):
        store = self.store
        self.put(1)
        self.assertEqual(store.mark(), 0)
        self.put(2)
        self.assertIsNone(store.undo(0))
        self.assertEqual(self.values(), [1])
        self.put(3)
        store.change("t", sets(a=0), TRUE)
        store.undo(k=0)
        self.assertEqual(self.values(), [1])
        store.undo(0)
        self.assertEqual(self.values(), [1])

    def test_undo_to_an_outer_one_drops_later_ones(self):
        store = self.store
        marks = []
        for k in range(3):
            marks.append(store.mark())
            self.put(k)
        self.assertEqual(marks, [0, 1, 2])
        store.undo(1)
        self.assertEqual(self.values(), [0])
        self.fails(NoMark, (2,), store.undo, 2)
        self.fails(NoMark, (2,), store.free, 2)
        self.assertEqual(store.mark(), 2)
        store.undo(1)
        store.undo(0)
        self.assertEqual(self.values(), [])

    def test_free_changes_nothing_else(self):
        store = self.store
        for k in range(3):
            store.mark()
            self.put(k)
        self.assertIsNone(store.free(k=1))
        self.assertEqual(self.values(), [0, 1, 2])
        self.fails(NoMark, (1,), store.undo, 1)
        self.fails(NoMark, (1,), store.free, 1)
        self.assertEqual(store.mark(), 1)
        self.put(5)
        store.undo(1)
        self.assertEqual(self.values(), [0, 1, 2])
        store.undo(0)
        self.assertEqual(self.values(), [])

    def test_no_mark_for_anything_else(self):
        store = self.store
        self.fails(NoMark, (0,), store.undo, 0)
        store.mark()
        store.mark()
        before = unchanged(store)
        for x in (-1, 2, 10 ** 99, None, True, False, "0", "", (), (0,), [], [0], {}, {0: 0}):
            self.fails(NoMark, (x,), store.undo, x)
            self.fails(NoMark, (x,), store.free, x)
        self.assertEqual(unchanged(store), before)

    def test_rows_come_back_as_they_were(self):
        store = self.store
        self.put(1, 2, 3)
        store.mark()
        store.take("t", TRUE)
        self.put(4)
        store.change("t", sets(a=plus(col("a"), 1)), TRUE)
        store.undo(0)
        self.assertEqual(list(store.rows("t")), [(0, (1,)), (1, (2,)), (2, (3,))])
        self.put(5)
        self.assertEqual(list(store.rows("t"))[-1], (4, (5,)))

    def test_things_come_back(self):
        store = self.store
        self.put(1)
        store.mark()
        store.drop("t")
        store.make(("table", table("t", "z", "y")), ("table", table("u", "a")))
        store.put("t", ())
        store.put("u", ())
        store.mark()
        store.drop("u", "t")
        store.undo(1)
        self.assertEqual(list(store.rows("t")), [(1, (None, None))])
        self.assertEqual(list(store.rows("u")), [(2, (None,))])
        store.undo(0)
        self.assertEqual(store.tables, ("t",))
        self.assertEqual(store.thing("t"), T)
        self.assertEqual(list(store.rows("t")), [(0, (1,))])
        self.fails(Unknown, ("u",), store.put, "u", ())

    def test_marks_only_in_transactions(self):
        store = Store()
        self.fails(NoTransaction, (), store.mark)
        self.fails(NoTransaction, (), store.undo, 0)
        self.fails(NoTransaction, (), store.free, None)
