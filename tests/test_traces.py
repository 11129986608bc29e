"""Points 51 and 52: traces and histories, entry by entry."""

from deedstore.errors import Raised
from deedstore.machines import run
from tests.build import (
    FALSE, TRUE, StoreTest, begun, block, col, do, equal, function, handler, op, plus, procedure,
    programs, put, raise_, set_, sets, table, trigger, value, var, variable,
)

T = table("t", "a", keys=(("a",),))


def deed(*parts):
    return ("deed", parts)


def at(*place):
    return ("at", place)


class TraceTest(StoreTest):
    def traced(self, wanted, *given, word="p", args=(), things=(), **more):
        """A call has this trace between its mark and its end; how it ends."""
        store = begun(("table", T), *things, *programs(*given))
        self.store = store
        before = len(store.journal)
        try:
            outcome = run(store, word, *args, **more)
        except Raised as raised:
            outcome = raised
        begin = (("enter", word), deed("mark", 0))
        end = (deed("free", 0),)
        if isinstance(outcome, Raised):
            end = (deed("undo", 0), deed("free", 0))
        self.assertEqual(outcome.trace[:2], begin)
        self.assertEqual(outcome.trace[-len(end):], end)
        self.assertEqual(outcome.trace[2:-len(end)], tuple(wanted))
        self.assertEqual(outcome.history, store.journal[before:])
        self.assertEqual(outcome.history, history_of(outcome.trace))
        return outcome

    def test_statements_and_rounds(self):
        loop = ("while", None, op("<", var("n"), 2), (set_("n", plus(var("n"), 1)),))
        each = ("each", None, "r", "t", TRUE, (("if", ((FALSE, ()),), (("look",),)),))
        p = procedure("p", loop, put("t"), each, block(), variables=(variable("n", "int", 0), variable("r", ("row", "t"))))
        self.traced((
            at(), at(0, 0), ("round",), at(0, 0, 0, 0), ("round",), at(0, 0, 0, 0), at(0, 1), deed("put", "t", 0, (None,)),
            at(0, 2), ("round",), at(0, 2, 0, 0), at(0, 2, 0, 0, 1, 0), at(0, 3), ("leave", "end")), p)

    def test_programs(self):
        f = function("f", ("return", value(1)))
        q = procedure("q", ("return", None), ("look",))
        p = procedure("p", do("q"), set_("n", plus(("call", "f", ()), ("call", "f", ()))), variables=(variable("n", "int", ("call", "f", ())),))
        once = (("enter", "f"), at(), at(0, 0), ("leave", "return"))
        self.traced((
            at(), *once, at(0, 0), ("enter", "q"), at(), at(0, 0), ("leave", "return"), at(0, 1), *once, *once,
            ("leave", "end")), p, q, f)

    def test_triggers(self):
        before = trigger("a", "t", "before", "put", ("if", ((equal(("field", "new", "a"), 1), (("skip",),)),), ()))
        after = trigger("b", "t", "after", "put", ("look",))
        fill = ("fill", "t", sets(a=col("a")), "u", TRUE, None)
        p = procedure("p", put("u", a=1), put("u", a=2), fill)
        self.traced((
            at(), at(0, 0), deed("put", "u", 0, (1,)), at(0, 1), deed("put", "u", 1, (2,)), at(0, 2),
            ("enter", "a"), at(), at(0, 0), at(0, 0, 0, 0), ("leave", "return"),
            ("enter", "a"), at(), at(0, 0), ("leave", "end"),
            deed("put", "t", 2, (2,)), ("enter", "b"), at(), at(0, 0), ("leave", "end"), ("leave", "end")),
            p, before, after, things=(("table", table("u", "a")),))

    def test_guards(self):
        guard = block(put("t", a=1), raise_("e"), handlers=(handler("x"), handler("e", ("look",))), last=(("look",),))
        self.traced((
            at(), at(0, 0), deed("mark", 1), at(0, 0, 0, 0), deed("put", "t", 0, (1,)), at(0, 0, 0, 1), ("raise", "e"),
            deed("undo", 1), deed("free", 1), ("catch", (0, 0), 1), at(0, 0, 2, 0), ("last", (0, 0)), at(0, 0, 3, 0),
            ("leave", "end")), procedure("p", guard))

    def test_a_guard_that_ends_or_is_left(self):
        guard = block(("look",), handlers=(handler(""),), last=(("look",),))
        self.traced((at(), at(0, 0), deed("mark", 1), at(0, 0, 0, 0), deed("free", 1), ("last", (0, 0)), at(0, 0, 2, 0),
                     ("leave", "end")), procedure("p", guard))
        guard = block(("return", None), handlers=(handler(""),), last=(("look",),))
        self.traced((at(), at(0, 0), deed("mark", 1), at(0, 0, 0, 0), deed("free", 1), ("last", (0, 0)), at(0, 0, 2, 0),
                     ("leave", "return")), procedure("p", guard))
        guard = block(raise_("e"), handlers=(handler("x"),), last=(("look",),))
        self.traced((at(), at(0, 0), deed("mark", 1), at(0, 0, 0, 0), ("raise", "e"), deed("free", 1), ("last", (0, 0)),
                     at(0, 0, 2, 0), ("leave", "signal")), procedure("p", guard))

    def test_the_outermost_block(self):
        p = procedure("p", raise_("e"), handlers=(handler("", ("again",)),), last=(("mark", "m"),))
        self.traced((
            at(), deed("mark", 1), at(0, 0), ("raise", "e"), deed("undo", 1), deed("free", 1), ("catch", (), 0), at(1, 0),
            ("raise", "e"), ("last", ()), at(2, 0), deed("mark", 1), deed("free", 1), ("leave", "signal")), p)

    def test_marks_are_freed_before_leave(self):
        self.traced((
            at(), at(0, 0), deed("mark", 1), at(0, 1), ("enter", "q"), at(), at(0, 0), deed("mark", 2), at(0, 1), ("raise", "e"),
            deed("free", 2), ("leave", "signal"), deed("free", 1), ("leave", "signal")),
            procedure("p", ("mark", "m"), do("q")), procedure("q", ("mark", "m"), raise_("e")))

    def test_statements_that_fail(self):
        guard = block(put("t", a=1), put("t", a=1), handlers=(handler("key"),))
        self.traced((
            at(), at(0, 0), deed("mark", 1), at(0, 0, 0, 0), deed("put", "t", 0, (1,)), at(0, 0, 0, 1),
            deed("put", "t", 1, (1,)), ("raise", "key"), ("fail",), deed("undo", 1), deed("free", 1), ("catch", (0, 0), 0),
            ("leave", "end")), procedure("p", guard))

    def test_statements_whose_triggers_fail(self):
        after = trigger("g", "t", "after", "put", put("u", a=("number", "s")), ("mark", "m"), raise_("e"))
        outcome = self.traced((
            at(), deed("mark", 1), at(0, 0), deed("number", "s", 1), deed("put", "t", 0, (1,)), ("enter", "g"), at(), at(0, 0),
            deed("number", "s", 2), deed("put", "u", 1, (2,)), at(0, 1), deed("mark", 2), at(0, 2), ("raise", "e"), deed("free", 2),
            ("leave", "signal"), ("fail",), deed("undo", 1), deed("free", 1), ("catch", (), 0), ("leave", "end")),
            procedure("p", put("t", a=("number", "s")), handlers=(handler("e"),)), after,
            things=(("sequence", ("s", 1, 1)), ("table", table("u", "a"))))
        self.assertEqual(outcome.history, (
            ("mark", 0), ("mark", 1), ("number", "s", 1), ("number", "s", 2), ("undo", 1), ("free", 1), ("free", 0)))

    def test_a_statement_within_one_that_fails(self):
        after = trigger("g", "t", "after", "put", block(put("u", a=1), put("u", a=1), handlers=(handler("x"),)))
        self.traced((
            at(), at(0, 0), deed("put", "t", 0, (None,)), ("enter", "g"), at(), at(0, 0), deed("mark", 1), at(0, 0, 0, 0),
            deed("put", "u", 1, (1,)), at(0, 0, 0, 1), deed("put", "u", 2, (1,)), ("raise", "key"), ("fail",), deed("free", 1),
            ("leave", "signal"), ("fail",), ("leave", "signal")), procedure("p", put("t")), after,
            things=(("table", table("u", "a", keys=(("a",),))),))

    def test_cascades(self):
        c = table("c", "a", references=(("r", ("a",), "t", "cascade", False),))
        after = trigger("g", "c", "after", "take", raise_("e"))
        self.traced((
            at(), at(0, 0), deed("put", "t", 0, (1,)), at(0, 1), deed("put", "c", 1, (1,)), at(0, 2), deed("take", "t", 0),
            deed("take", "c", 1), ("enter", "g"), at(), at(0, 0), ("raise", "e"), ("leave", "signal"), ("fail",), ("leave", "signal")),
            procedure("p", put("t", a=1), put("c", a=1), ("take", "t", TRUE, None)), after, things=(("table", c),))

    def test_which_statements_fail(self):
        variables = (variable("c", ("cursor", "t")), variable("r", ("row", "t")), variable("f", "truth"))
        wrong = equal(op("div", 1, 0), 1)
        opened = (("open", "c", "t", TRUE), ("fetch", "c", "r", "f"), ("take", "t", TRUE, None))
        for statements, word, fails in (
            ((("put", "t", (("a", op("div", 1, 0)),), None),), "division", True),
            ((("fill", "t", (), "t", wrong, None),), "division", True), ((("change", "t", (), wrong, None),), "division", True),
            ((("take", "t", wrong, None),), "division", True), ((("changeat", "c", ()),), "cursor", True),
            ((("takeat", "c"),), "cursor", True), ((*opened, ("takeat", "c")), "gone", True),
            ((*opened, ("changeat", "c", ())), "gone", True),
            ((("fetch", "c", "r", "f"),), "cursor", False), ((("close", "c"),), "cursor", False),
            ((("get", "r", "t", FALSE),), "norow", False), ((("open", "c", "t", wrong),), "division", False),
            ((("each", None, "r", "t", wrong, ()),), "division", False), ((("if", ((wrong, ()),), ()),), "division", False),
        ):
            store = begun(("table", T), *programs(procedure("p", *statements, variables=variables)))
            store.put("t", ())
            trace = self.raised(run, store, "p").trace
            end = [("raise", word)] + [("fail",)] * fails + [("leave", "signal"), deed("undo", 0), deed("free", 0)]
            self.assertEqual(list(trace[-len(end):]), end)

    def test_jumps(self):
        loop = ("while", "l", TRUE, (block(("leave", "l"), last=(("look",),)),))
        self.traced((at(), at(0, 0), ("round",), at(0, 0, 0, 0), at(0, 0, 0, 0, 0, 0), ("last", (0, 0, 0, 0)), at(0, 0, 0, 0, 1, 0),
                     at(0, 1), ("leave", "end")), procedure("p", loop, ("look",)))

    def test_noreturn(self):
        self.traced((at(), at(0, 0), ("enter", "f"), at(), ("raise", "noreturn"), ("leave", "signal"), ("leave", "signal")),
                    procedure("p", set_("n", ("call", "f", ())), variables=(variable("n"),)), function("f"))

    def test_long_and_depth(self):
        self.traced((at(), at(0, 0), ("round",), ("raise", "long"), ("leave", "signal")),
                    procedure("p", ("while", None, TRUE, ())), most=1)
        down = procedure("p", ("if", ((op("<", 0, var("n")), (do("p", op("-", var("n"), 1)),)),), ()), params=(("n", "int", "in"),))
        deep = [("enter", "p"), at(), at(0, 0), at(0, 0, 0, 0)] * 8
        self.traced([at(), at(0, 0), at(0, 0, 0, 0)] + deep + [("raise", "depth")] + [("leave", "signal")] * 9, down, args=(9,))

    def test_programs_that_are_made_and_dropped(self):
        q = procedure("q", ("look",))
        self.traced((
            at(), at(0, 0), deed("make", (("program", q),)), at(0, 1), ("enter", "q"), at(), at(0, 0), ("leave", "end"), at(0, 2),
            deed("drop", ("q",)), ("leave", "end")), procedure("p", ("make", q), ("doby", value("q"), ()), ("drop", "q")))


def history_of(trace):
    """The deeds of a trace but those of statements that failed; of these only the numbers."""
    found = []
    for entry in trace:
        if entry[0] == "at":
            found.append(entry)
        elif entry[0] == "deed":
            found.append(entry)
        elif entry[0] == "enter":
            found.append(entry)
        elif entry[0] == "leave":
            # Of the statements of a program that has ended none is running any more.
            begin = max(k for k, other in enumerate(found) if other[0] == "enter")
            found[begin:] = [other for other in found[begin:] if other[0] == "deed"]
        elif entry[0] == "fail":
            begin = max(k for k, other in enumerate(found) if other[0] == "at")
            found[begin:] = [other for other in found[begin:] if other[0] == "deed" and other[1][0] == "number"]
    return tuple(entry[1] for entry in found if entry[0] == "deed")


class HistoryTest(StoreTest):
    def test_the_history_alone_makes_the_store_behind(self):
        guard = block(put("t", a=2), raise_("e"), handlers=(handler("e", put("t", a=3)),))
        store = begun(("table", T), *programs(procedure("p", put("t", a=1), guard, ("change", "t", sets(a=plus(col("a"), 5)), TRUE, None))))
        self.assertEqual(run(store, "p").history, (
            ("mark", 0), ("put", "t", 0, (1,)), ("mark", 1), ("put", "t", 1, (2,)), ("undo", 1), ("free", 1),
            ("put", "t", 2, (3,)), ("change", "t", 0, (6,)), ("change", "t", 2, (8,)), ("free", 0)))
