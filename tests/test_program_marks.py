"""Points 49 and 52: marks of programs, and what they belong to."""

from deedstore.machines import run
from tests.build import (
    TRUE, StoreTest, begun, block, do, equal, handler, op, procedure, programs, put, raise_, set_,
    table, trigger, variable,
)

T = ("table", table("t", "a"))
M = ("mark", "m")
BACK = ("back", "m")
FREE = ("free", "m")


class MarkTest(StoreTest):
    def history(self, *statements, things=(), **parts):
        """The deeds of a call, puts told by their values alone."""
        self.store = begun(T, *things, *programs(procedure("p", *statements, **parts)))
        return [deed[3][0] if deed[0] == "put" else deed for deed in run(self.store, "p").history]

    def has_no_mark(self, *statements, things=(), **parts):
        names_m = ("if", ((equal(("told", 0, "text"), "m"), (put("t", a=77),)),), ())
        guard = block(*statements, handlers=(handler("mark", names_m),), **parts)
        self.assertIn(77, self.history(guard, things=things))

    def test_back_and_free(self):
        self.assertEqual(
            self.history(put("t", a=1), M, put("t", a=2), BACK, put("t", a=3), BACK, FREE, put("t", a=4)),
            [("mark", 0), 1, ("mark", 1), 2, ("undo", 1), 3, ("undo", 1), ("free", 1), 4, ("free", 0)])
        self.has_rows(self.store, "t", (1,), (4,))

    def test_no_mark(self):
        self.has_no_mark(BACK)
        self.has_no_mark(FREE)
        self.has_no_mark(("mark", "n"), BACK)
        self.has_no_mark(M, FREE, BACK)
        error = self.raised(self.history, M, FREE, FREE)
        self.assertEqual((error.word, error.details, error.program, error.place), ("mark", ("m",), "p", (0, 2)))

    def test_the_same_word_again_hides_the_elder_one(self):
        self.assertEqual(
            self.history(M, put("t", a=1), M, put("t", a=2), BACK, FREE, put("t", a=3), BACK),
            [("mark", 0), ("mark", 1), 1, ("mark", 2), 2, ("undo", 2), ("free", 2), 3, ("undo", 1), ("free", 1), ("free", 0)])
        self.has_rows(self.store, "t")

    def test_back_drops_later_ones_and_so_does_free(self):
        self.has_no_mark(("mark", "n"), M, ("back", "n"), BACK)
        self.has_no_mark(("mark", "n"), M, ("free", "n"), FREE)
        self.assertEqual(self.history(("mark", "n"), M, ("back", "n"), M, ("free", "n")), [
            ("mark", 0), ("mark", 1), ("mark", 2), ("undo", 1), ("mark", 2), ("free", 1), ("free", 0)])

    def test_the_first_is_freed_at_the_end(self):
        self.assertEqual(self.history(M, ("mark", "n"), M), [
            ("mark", 0), ("mark", 1), ("mark", 2), ("mark", 3), ("free", 1), ("free", 0)])

    def test_blocks_without_handlers_and_loops_own_none(self):
        self.assertEqual(self.history(block(M), put("t", a=1), ("while", "l", TRUE, (BACK, ("leave", "l"))), FREE), [
            ("mark", 0), ("mark", 1), 1, ("undo", 1), ("free", 1), ("free", 0)])

    def test_guarded_parts(self):
        # With the guard's mark it is one deed.
        self.assertEqual(self.history(block(M, ("mark", "n"), handlers=(handler("x"),)), put("t", a=1)), [
            ("mark", 0), ("mark", 1), ("mark", 2), ("mark", 3), ("free", 1), 1, ("free", 0)])
        self.has_no_mark(M, block(BACK, handlers=(handler("x"),)))
        self.has_no_mark(block(M, handlers=(handler("x"),)), BACK)
        self.assertEqual(self.history(block(M, put("t", a=1), raise_("x"), handlers=(handler("x", put("t", a=2)),))), [
            ("mark", 0), ("mark", 1), ("mark", 2), 1, ("undo", 1), ("free", 1), 2, ("free", 0)])

    def test_variables_are_of_the_guarded_part(self):
        # A function that is called for a variable has marks of its own only.
        guard = block(M, BACK, variables=(variable("a", "int", 1),), handlers=(handler("x"),))
        self.assertEqual(self.history(guard), [("mark", 0), ("mark", 1), ("mark", 2), ("undo", 2), ("free", 1), ("free", 0)])

    def test_handlers(self):
        guard = block(raise_("x"), handlers=(handler("x", M, put("t", a=1), BACK, ("mark", "n")),), last=(put("t", a=2),))
        self.assertEqual(self.history(guard), [
            ("mark", 0), ("mark", 1), ("undo", 1), ("free", 1), ("mark", 1), 1, ("undo", 1), ("mark", 2), ("free", 1), 2, ("free", 0)])
        inner = block(raise_("x"), handlers=(handler("x", BACK),))
        self.has_no_mark(M, inner)

    def test_last(self):
        self.assertEqual(self.history(block(put("t", a=1), last=(M, put("t", a=2), BACK)), put("t", a=3)), [
            ("mark", 0), 1, ("mark", 1), 2, ("undo", 1), ("free", 1), 3, ("free", 0)])
        self.has_no_mark(M, block(last=(BACK,)))
        self.has_no_mark(block(last=(M,)), BACK)

    def test_programs(self):
        q = procedure("q", M, put("t", a=5), params=())
        self.assertEqual(self.history(M, do("q"), BACK, things=programs(q)), [
            ("mark", 0), ("mark", 1), ("mark", 2), 5, ("free", 2), ("undo", 1), ("free", 1), ("free", 0)])
        self.has_no_mark(M, do("q"), things=programs(procedure("q", BACK)))
        self.has_no_mark(do("q"), BACK, things=programs(procedure("q", M)))
        self.has_no_mark(M, put("t"), things=programs(trigger(
            "g", "t", "after", "put", ("if", ((("null", ("field", "new", "a")), (BACK,)),), ()))))

    def test_left_in_whatever_way(self):
        for way in (("leave", "l"), ("return", None)):
            self.assertEqual(self.history(block(block(M, way, handlers=(handler("x"),)), label="l")), [
                ("mark", 0), ("mark", 1), ("mark", 2), ("free", 1), ("free", 0)])
            inner = block(raise_("x"), handlers=(handler("x", M, way),), last=(("mark", "n"), way))
            self.assertEqual(self.history(block(inner, label="l")), [
                ("mark", 0), ("mark", 1), ("undo", 1), ("free", 1), ("mark", 1), ("free", 1), ("mark", 1), ("free", 1), ("free", 0)])
        q = procedure("q", M, raise_("e"))
        self.assertEqual(self.history(block(do("q"), handlers=(handler("e"),)), things=programs(q)), [
            ("mark", 0), ("mark", 1), ("mark", 2), ("free", 2), ("undo", 1), ("free", 1), ("free", 0)])
        inner = block(raise_("x"), handlers=(handler("x", M, raise_("y")),), last=(("mark", "n"), raise_("z")))
        self.assertEqual(self.history(block(inner, handlers=(handler("z"),))), [
            ("mark", 0), ("mark", 1), ("mark", 2), ("undo", 2), ("free", 2), ("mark", 2), ("free", 2), ("mark", 2), ("free", 2),
            ("undo", 1), ("free", 1), ("free", 0)])

    def test_in_triggers(self):
        g = trigger("g", "t", "after", "put", ("if", ((op("<", ("field", "new", "a"), 2), (
            M, put("t", a=5), BACK, put("t", a=6), ("mark", "n"))),), ()))
        self.assertEqual(self.history(put("t", a=1), things=programs(g)), [
            ("mark", 0), 1, ("mark", 1), 5, ("undo", 1), 6, ("mark", 2), ("free", 1), ("free", 0)])

    def test_they_go_on_from_the_marks_of_the_store(self):
        store = begun(T, *programs(procedure("p", M, put("t", a=1), BACK)))
        store.mark()
        store.mark()
        self.assertEqual(run(store, "p").history, (
            ("mark", 2), ("mark", 3), ("put", "t", 0, (1,)), ("undo", 3), ("free", 3), ("free", 2)))
        store.undo(1)
        self.assertEqual(store.mark(), 2)

    def test_a_statement_that_fails_drops_its_marks(self):
        g = trigger("g", "t", "after", "put", ("mark", "n"), raise_("e"))
        self.assertEqual(self.history(M, block(put("t", a=1), handlers=(handler("e"),)), ("mark", "k"), things=programs(g)), [
            ("mark", 0), ("mark", 1), ("mark", 2), ("undo", 2), ("free", 2), ("mark", 2), ("free", 1), ("free", 0)])

    def test_variables_keep_their_values(self):
        p = procedure("p", M, set_("n", 5), put("t", a=1), BACK, params=(("n", "int", "out"),))
        store = begun(T, *programs(p))
        self.assertEqual(run(store, "p").results, (5,))
