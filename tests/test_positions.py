"""Points 41 and 42: each statement in each position in which it may stand, and its place there."""

from deedstore.errors import Raised
from deedstore.machines import run
from tests.build import (
    FALSE, NULL, TRUE, StoreTest, begun, block, col, function, handler, procedure, programs, put,
    raise_, set_, sets, table, tables, trigger, value, var, variable,
)

VARIABLES = (variable("n"), variable("f", "truth"), variable("r", ("row", "t")), variable("c", ("cursor", "t")))
OPENED = (("open", "c", "t", TRUE), ("fetch", "c", "r", "f"))
DONE = put("log", a=var("n"))

# Statements with what runs ahead of them, and the deed or signal by which they can be told.
STATEMENTS = (
    ((), block(DONE), ("put", "log")),
    ((), set_("n", 7), None),
    ((), ("if", ((FALSE, ()),), (DONE,)), ("put", "log")),
    ((), ("while", "w", TRUE, (DONE, ("leave", "w"))), ("put", "log")),
    ((), ("each", "e", "r", "t", TRUE, (DONE, ("next", "e"))), ("put", "log")),
    ((), ("return", None), None),
    ((), put("t", a=77), ("put", "t")),
    ((), ("fill", "log", sets(a=col("a")), "t", TRUE, "n"), ("put", "log")),
    ((), ("change", "t", sets(b=1), TRUE, "n"), ("change", "t")),
    ((), ("take", "t", TRUE, "n"), ("take", "t")),
    ((), ("get", "r", "t", TRUE), None),
    ((), OPENED[0], None),
    (OPENED[:1], OPENED[1], None),
    (OPENED, ("changeat", "c", sets(b=5)), ("change", "t")),
    (OPENED, ("takeat", "c"), ("take", "t")),
    (OPENED, ("close", "c"), None),
    ((), ("mark", "m"), ("mark",)),
    ((("mark", "m"),), ("back", "m"), ("undo",)),
    ((("mark", "m"),), ("free", "m"), ("free",)),
    ((), ("look",), None),
    ((), ("do", "q", (value(5),)), ("put", "log")),
    ((), ("doby", value("q"), (value(5),)), ("put", "log")),
    ((), ("make", procedure("made")), ("make",)),
    ((), ("drop", "gone"), ("drop",)),
    ((), raise_("e", 5), "e"),
    ((), ("fetch", "c", "r", "f"), "cursor"),
    ((), ("back", "m"), "mark"),
)


def positions(ahead, statement):
    """Blocks in which the statement stands, with its place in them and whether it is guarded."""
    all_of_them = (*ahead, statement)
    k = len(ahead)
    guard = block(raise_("x"), handlers=(handler("y"), handler("x", *all_of_them)))
    yield block(*all_of_them), (0, k)
    yield block(block(*all_of_them)), (0, 0, 0, k)
    yield block(("if", ((FALSE, ()), (TRUE, all_of_them)), ())), (0, 0, 1, k)
    yield block(("if", ((FALSE, ()), (NULL, ())), all_of_them)), (0, 0, 2, k)
    yield block(("while", "o", TRUE, (*all_of_them, ("leave", "o")))), (0, 0, 0, k)
    yield block(("each", "o", "rr", "t", TRUE, all_of_them), variables=(variable("rr", ("row", "t")),)), (0, 0, 0, k)
    yield block(("look",), guard), (0, 1, 2, k)
    yield block(block(last=all_of_them)), (0, 0, 1, k)
    yield block(handlers=(handler("z"),), last=all_of_them), (2, k)
    yield block(("look",), block(*all_of_them, handlers=(handler("zz"),))), (0, 1, 0, k)
    yield block(guard, last=all_of_them) if statement[0] == "look" else block(*all_of_them, last=(("look",),)), None


class PositionTest(StoreTest):
    def outcome(self, body):
        store = begun(
            *tables(table("t", "a", "b"), table("log", "a")), *programs(
                procedure("p", body, variables=VARIABLES), procedure("gone"),
                procedure("q", put("log", a=var("k")), params=(("k", "int", "in"),))))
        store.put("t", sets(a=1))
        try:
            return run(store, "p")
        except Raised as raised:
            return raised

    def test_each_statement_in_each_position(self):
        for ahead, statement, told in STATEMENTS:
            for body, place in positions(ahead, statement):
                outcome = self.outcome(body)
                if isinstance(told, str):
                    self.assertEqual(outcome.word, told, body)
                    if place is not None:
                        self.assertEqual(outcome.place, (0, 0, *place), body)
                else:
                    self.assertNotIsInstance(outcome, Raised, body)
                self.check_trace(outcome.trace, place, told)

    def check_trace(self, trace, place, told):
        """The statement begins at its place, and does its deed behind it."""
        if place is None:
            return
        entry = ("at", (0, 0, *place))
        self.assertIn(entry, trace)
        if isinstance(told, tuple):
            behind = trace[trace.index(entry):]
            deeds = [part[1] for part in behind if part[0] == "deed"]
            self.assertIn(told, [deed[:len(told)] for deed in deeds])

    def test_in_functions(self):
        for ahead, statement, told in STATEMENTS:
            if statement[0] in ("block", "if", "while", "each", "set", "get", "open", "fetch", "close", "raise"):
                quiet = tuple(part for part in (*ahead, statement) if "put" not in str(part))
                f = function("g", *quiet, ("return", value(3)), variables=VARIABLES, handlers=(handler("e cursor", ("return", value(4))),))
                store = begun(*tables(table("t", "a", "b"), table("log", "a")), *programs(f))
                store.put("t", sets(a=1))
                store.put("log", sets(a=("call", "g", ())))
                self.assertIn(store.row("log", 1), ((3,), (4,)))

    def test_in_after_triggers(self):
        for ahead, statement, told in STATEMENTS:
            if statement[0] in ("make", "drop"):
                continue
            for body, place in positions(ahead, statement):
                g = trigger("g", "go", "after", "put", body, variables=VARIABLES)
                store = begun(
                    *tables(table("t", "a", "b"), table("log", "a"), table("go", "a")), *programs(
                        g, procedure("q", put("log", a=var("k")), params=(("k", "int", "in"),))))
                store.put("t", sets(a=1))
                before = len(store.journal)
                if isinstance(told, str):
                    self.assertEqual(self.raised(store.put, "go", ()).word, told)
                    self.assertEqual(len(store.journal), before)
                else:
                    self.assertEqual(store.put("go", ()), 1)
                    deeds = [deed[:len(told)] for deed in store.journal[before:]] if told else [told]
                    self.assertIn(told, deeds)
                    self.assertEqual(store.mark(), 0)
