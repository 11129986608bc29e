"""Points 45, 46, 47 and 48: variables, branches, loops, jumps, guards, handlers and last parts."""

from deedstore.machines import run
from tests.build import (
    FALSE, NULL, TRUE, StoreTest, begun, block, col, column, do, equal, function, handler, op,
    plus, procedure, programs, put, raise_, set_, sets, table, trigger, value, var, variable,
    view,
)

OUT = (("n", "int", "out"), ("w", "text", "out"))


def say(letter):
    """Writes a letter behind what is in w."""
    return set_("w", op("join", ("case", ("null", var("w")), value(""), var("w")), letter))


class RunTest(StoreTest):
    def results(self, *statements, things=(), **parts):
        """The values of n and w behind these statements."""
        store = begun(("table", table("t", "a", "b")), *things, *programs(
            procedure("p", *statements, params=OUT, **parts)))
        for a in (1, 2, 3):
            store.put("t", sets(a=a, b=op("*", a, a)))
        return run(store, "p").results

    def said(self, wanted, *statements, **parts):
        self.assertEqual(self.results(*statements, **parts)[1], wanted)


class VariableTest(RunTest):
    def test_null_at_first_then_in_order(self):
        shown = ("case", ("null", var("b")), value(1), value(2))
        self.assertEqual(self.results(set_("n", var("a")), variables=(
            variable("a", "int", shown), variable("b", "int", 5)))[0], 1)
        self.assertEqual(self.results(set_("n", var("a")), variables=(
            variable("b", "int", 5), variable("a", "int", shown)))[0], 2)
        self.assertIsNone(self.results(set_("n", var("a")), variables=(variable("a"),))[0])

    def test_rows_have_nulls_at_first(self):
        self.assertEqual(self.results(set_("n", ("case", ("null", ("field", "r", "b")), value(7), NULL)), variables=(
            variable("r", ("row", "t")),))[0], 7)

    def test_inner_ones_hide_outer_ones(self):
        inner = block(set_("a", 2), set_("n", plus(var("n"), var("a"))), variables=(variable("a"),))
        self.assertEqual(self.results(set_("n", 10), set_("a", 1), inner, set_("n", plus(var("n"), op("*", 100, var("a")))),
                                      variables=(variable("a"),))[0], 112)
        # Also in their own expressions.
        inner = block(set_("n", var("a")), variables=(variable("a", "int", var("a")),))
        self.assertIsNone(self.results(set_("a", 1), inner, variables=(variable("a"),))[0])

    def test_new_ones_each_time(self):
        inner = block(("if", ((("null", var("a")), (set_("a", 1), say("x"))),), (say("y"),)), variables=(variable("a"),))
        self.said("xxx", ("each", None, "r", "t", TRUE, (inner,)), variables=(variable("r", ("row", "t")),))

    def test_a_signal_in_their_expressions(self):
        wrong = block(say("x"), variables=(variable("a", "int", 5), variable("b", "int", op("div", 1, 0)), variable("c", "int", 6)),
                      handlers=(handler("division", set_("n", plus(var("a"), 1)), ("if", ((("null", var("c")), (say("h"),)),), ())),),
                      last=(say("l"),))
        self.assertEqual(self.results(wrong), (6, "hl"))


    def test_a_signal_in_their_expressions_that_goes_outward(self):
        wrong = block(say("x"), variables=(variable("a", "int", op("div", 1, 0)), variable("b", "int", ("call", "f", ()))),
                      handlers=(handler("never"),), last=(say("l"),))
        f = programs(function("f", ("return", value(1))))
        self.said("lh", block(wrong, say("y"), handlers=(handler("", say("h")),)), things=f)
        self.said("lh", block(block(*wrong[3], variables=wrong[2], last=wrong[5]), handlers=(handler("", say("h")),)), things=f)

    def test_those_without_expressions_between_others(self):
        given = (variable("a"), variable("b"), variable("c", "int", 5), variable("d"), variable("e", "int", plus(var("c"), 1)))
        self.assertEqual(self.results(set_("n", var("e")), variables=given)[0], 6)
        self.assertEqual(self.results(set_("n", var("c")), variables=given[1:3])[0], 5)


class BranchTest(RunTest):
    def test_the_first_that_is_true(self):
        def branches(*cs):
            return ("if", tuple((c, (say(letter),)) for c, letter in zip(cs, "abc")), (say("z"),))

        self.said("a", branches(TRUE, TRUE))
        self.said("b", branches(FALSE, TRUE, TRUE))
        self.said("c", branches(FALSE, NULL, TRUE))
        self.said("z", branches(FALSE, NULL, FALSE))
        self.said("z", branches())
        self.said("a", branches(TRUE, equal(op("div", 1, 0), 1)))

    def test_conditions_are_evaluated_up_to_it(self):
        store = begun(("sequence", ("s", 1, 1)), *programs(procedure(
            "p", ("if", tuple((equal(("number", "s"), k), ()) for k in (5, 2, 3)), ()))))
        run(store, "p")
        self.assertEqual(store.following("s"), 3)


class LoopTest(RunTest):
    def test_while(self):
        loop = ("while", None, op("<", var("n"), 4), (set_("n", plus(var("n"), 1)), say("x")))
        self.assertEqual(self.results(set_("n", 1), loop), (4, "xxx"))
        # n is NULL, so the condition is.
        self.assertEqual(self.results(loop), (None, None))

    def test_each(self):
        add = set_("n", plus(var("n"), ("field", "r", "b")))
        loop = ("each", None, "r", "t", op("<", 1, col("a")), (add, say("x")))
        keeps = set_("n", plus(op("*", var("n"), 100), ("field", "r", "a")))
        r = (variable("r", ("row", "t")),)
        self.assertEqual(self.results(set_("n", 0), loop, keeps, variables=r), (1303, "xx"))
        none = ("each", None, "r", "t", FALSE, (say("x"),))
        self.assertEqual(self.results(none, set_("n", ("field", "r", "a")), variables=r), (None, None))

    def test_each_goes_through_the_rows_of_its_begin(self):
        loop = ("each", None, "r", "t", op("<", col("a"), 3), (
            ("take", "t", TRUE, None), put("t", a=1), set_("n", plus(op("*", var("n"), 10), ("field", "r", "a")))))
        self.assertEqual(self.results(set_("n", 0), loop, variables=(variable("r", ("row", "t")),))[0], 12)

    def test_each_over_a_view(self):
        v = ("view", view("v", "t", (("q", "b"), "a"), op("<", 1, col("a"))))
        loop = ("each", None, "r", "v", op("<", col("q"), 9), (set_("n", ("field", "r", "q")), say("x")))
        self.assertEqual(self.results(loop, things=(v,), variables=(variable("r", ("row", "v")),)), (4, "x"))

    def test_all_conditions_before_the_first_round(self):
        loop = ("each", None, "r", "t", equal(op("div", 6, op("-", 3, col("a"))), 3), (say("x"),))
        self.said("h", block(loop, handlers=(handler("division", say("h")),)), variables=(variable("r", ("row", "t")),))

    def test_get(self):
        def get(c):
            return block(("get", "r", "t", c), set_("n", ("field", "r", "b")), handlers=(
                handler("norow", say("o")), handler("manyrows", say("m"))))

        r = (variable("r", ("row", "t")),)
        self.assertEqual(self.results(get(equal(col("a"), 3)), variables=r), (9, None))
        self.assertEqual(self.results(get(equal(col("a"), 4)), variables=r), (None, "o"))
        self.assertEqual(self.results(get(op("<", col("a"), 3)), variables=r), (None, "m"))
        # The row stays as it was.
        self.assertEqual(self.results(get(equal(col("a"), 3)), get(NULL), set_("n", ("field", "r", "a")), variables=r), (3, "o"))


class JumpTest(RunTest):
    def test_leave_and_next(self):
        loop = ("each", "l", "r", "t", TRUE, (
            say("a"), ("if", ((equal(("field", "r", "a"), 1), (("next", "l"),)), (equal(("field", "r", "a"), 3), (("leave", "l"),))), ()),
            say("b")))
        self.said("aabaz", loop, say("z"), variables=(variable("r", ("row", "t")),))
        loop = ("while", "l", TRUE, (say("a"), ("if", ((equal(var("w"), "aaa"), (("leave", "l"),)),), ()), ("next", "l"), say("b")))
        self.said("aaaz", loop, say("z"))

    def test_through_loops_and_blocks(self):
        inner = ("while", "i", TRUE, (block(say("x"), ("leave", "o"), say("y"), last=(say("l"),)),))
        self.said("xlz", block(inner, say("y"), label="o"), say("z"))
        inner = ("while", "i", TRUE, (block(say("x"), ("next", "o"), last=(say("l"),)),))
        outer = ("each", "o", "r", "t", TRUE, (inner, say("y")))
        self.said("xlxlxlz", outer, say("z"), variables=(variable("r", ("row", "t")),))

    def test_leave_of_a_block_runs_its_last(self):
        self.said("xlz", block(say("x"), ("leave", "b"), say("y"), label="b", last=(say("l"),)), say("z"))
        self.said("hlz", block(raise_("e"), label="b", handlers=(handler("", say("h"), ("leave", "b"), say("y")),),
                               last=(say("l"),)), say("z"))

    def test_leave_through_guards(self):
        guard = block(say("x"), ("leave", "o"), handlers=(handler("", say("h")),), last=(say("l"),))
        self.said("xlz", block(guard, label="o"), say("z"))

    def test_return(self):
        self.said("xlm", block(say("x"), ("return", None), say("y"), last=(say("l"),)), say("z"), last=(say("m"),))
        self.said("xl", ("while", None, TRUE, (block(say("x"), ("return", None), handlers=(handler("", say("h")),),
                                                     last=(say("l"),)),)))
        self.said("hl", block(raise_("e"), handlers=(handler("", say("h"), ("return", None)),), last=(say("l"),)), say("z"))


class FunctionTest(RunTest):
    def value(self, *statements, **parts):
        f = function("f", *statements, params=(("a", "int", "in"),), **parts)
        return self.results(set_("n", ("call", "f", (value(5),))), things=programs(f))[0]

    def test_return(self):
        self.assertEqual(self.value(("return", plus(var("a"), 1)), ("return", value(0))), 6)
        self.assertIsNone(self.value(("return", NULL)))
        self.assertEqual(self.value(("while", None, TRUE, (block(("return", var("a"))),))), 5)

    def test_the_value_was_evaluated_before_last(self):
        self.assertEqual(self.value(("return", var("b")), variables=(variable("b", "int", 1),), last=(set_("b", 2),)), 1)

    def test_last_that_returns(self):
        self.assertEqual(self.value(("return", value(1)), last=(("return", value(2)),)), 2)
        inner = block(("return", value(1)), last=(("leave", "o"),))
        self.assertEqual(self.value(block(inner, label="o"), ("return", value(3))), 3)

    def test_no_return(self):
        f = function("f", set_("b", 1), variables=(variable("b"),))
        store = begun(*programs(f, procedure("p", set_("n", ("call", "f", ())), params=OUT)))
        error = self.raised(run, store, "p")
        self.assertEqual((error.word, error.details, error.program, error.place, error.stack), (
            "noreturn", (), "f", (), (("p", (0, 0)),)))
        self.said("h", block(set_("n", ("call", "f", ())), handlers=(handler("noreturn", say("h")),)), things=programs(f))


class GuardTest(RunTest):
    def test_handlers_by_word(self):
        def guard(word):
            return block(raise_(word), handlers=(handler("a", say("a")), handler("b c", say("b")), handler("", say("z")),
                                                 handler("d", say("d"))))

        self.said("abbz", guard("a"), guard("b"), guard("c"), guard("d"))

    def test_signals_outward(self):
        inner = block(say("x"), raise_("e"), say("y"), handlers=(handler("a b", say("h")),), last=(say("l"),))
        self.said("xlozm", block(inner, say("y"), handlers=(handler("e", say("o")),)), say("z"), last=(say("m"),))

    def test_signals_of_all_sorts(self):
        for statement, word in (
            (set_("n", op("div", 1, 0)), "division"), (set_("n", op("*", 10 ** 30, 10)), "range"),
            (("get", "r", "t", TRUE), "manyrows"), (("close", "c"), "cursor"), (("back", "m"), "mark"),
            (("doby", value("zz"), ()), "noproc"), (("drop", "zz"), "unknown"), (("make", procedure("p")), "known"),
        ):
            guard = block(statement, handlers=(handler(word, set_("w", ("word",))),))
            self.said(word, guard, variables=(variable("r", ("row", "t")), variable("c", ("cursor", "t"))))

    def test_word_and_details(self):
        def told(k, kind, to):
            return set_(to, ("told", k, kind))

        def guard(*statements):
            return block(raise_("e", 5, "x", True, NULL), handlers=(handler("", *statements),))

        self.assertEqual(self.results(guard(told(0, "int", "n"), told(1, "text", "w"))), (5, "x"))
        for k, kind, to in ((1, "int", "n"), (2, "int", "n"), (3, "int", "n"), (4, "int", "n"), (10 ** 20, "int", "n"), (0, "text", "w")):
            self.assertEqual(self.results(guard(told(k, kind, to))), (None, None))
        self.said("yes", guard(("if", ((("told", 2, "truth"), (say("yes"),)),), ())))
        self.said("no", guard(("if", ((("told", 0, "truth"), (say("yes"),)),), (say("no"),))))
        self.said("e", guard(set_("w", ("word",))))

    def test_the_innermost_handler_tells(self):
        inner = block(raise_("b", 2), handlers=(handler("", say("x"), set_("n", ("told", 0, "int"))),),
                      last=(set_("w", op("join", var("w"), ("word",))),))
        self.assertEqual(self.results(block(raise_("a", 1), handlers=(handler("", inner),))), (2, "xa"))

    def test_what_is_taken_back(self):
        guard = block(put("t", a=9), set_("n", 7), ("take", "t", op("<", col("a"), 3), "m"), raise_("e"),
                      handlers=(handler("", set_("n", plus(op("*", var("n"), 100), ("count", "t", TRUE)))),),
                      variables=(variable("m"),))
        self.assertEqual(self.results(guard)[0], 703)

    def test_what_is_handled_leaves_numbers_taken(self):
        t = table("u", column("a", default=("number", "s")))
        guard = block(put("u"), raise_("e"), handlers=(handler(""),))
        store = begun(("sequence", ("s", 1, 1)), ("table", t), *programs(procedure("p", guard, put("u"))))
        history = run(store, "p").history
        self.assertEqual(history, (
            ("mark", 0), ("mark", 1), ("number", "s", 1), ("put", "u", 0, (1,)), ("undo", 1), ("free", 1),
            ("number", "s", 2), ("put", "u", 1, (2,)), ("free", 0)))

    def test_things_that_are_made_are_taken_back(self):
        guard = block(("make", procedure("new", put("t", a=50))), ("doby", value("new"), ()), raise_("e"), handlers=(
            handler("", block(("doby", value("new"), ()), handlers=(handler("noproc", set_("n", ("count", "t", TRUE))),))),))
        self.assertEqual(self.results(guard)[0], 3)
        guard = block(("drop", "q"), raise_("e"), handlers=(handler("", ("doby", value("q"), ())),))
        self.assertEqual(self.results(guard, set_("n", ("count", "t", TRUE)), things=programs(procedure("q", put("t"))))[0], 4)

    def test_a_signal_in_a_handler_is_not_guarded_by_its_block(self):
        guard = block(raise_("a"), handlers=(handler("a", say("x"), raise_("b")), handler("b", say("y"))), last=(say("l"),))
        self.said("xlz", block(guard, handlers=(handler("b", say("z")),)))

    def test_again(self):
        inner = block(raise_("e", 5), handlers=(handler("", say("x"), ("again",), say("y")),), last=(say("l"),))
        self.assertEqual(self.results(block(inner, handlers=(handler("e", set_("n", ("told", 0, "int"))),))), (5, "xl"))

    def test_handlers_of_loops(self):
        # The handler ends the block, not the loop.
        loop = ("each", None, "r", "t", TRUE, (block(say("a"), ("if", ((equal(("field", "r", "a"), 2), (raise_("e"),)),), ()), say("b"),
                                                     handlers=(handler("e", say("h")),)),))
        self.said("abahab", loop, variables=(variable("r", ("row", "t")),))
        loop = ("each", "o", "r", "t", TRUE, (block(raise_("e"), handlers=(handler("", say("h"), ("next", "o")),)), say("x")))
        self.said("hhh", loop, variables=(variable("r", ("row", "t")),))


class LastTest(RunTest):
    def test_each_way_out(self):
        self.said("xlz", block(say("x"), last=(say("l"),)), say("z"))
        self.said("xl", block(say("x"), ("return", None), last=(say("l"),)), say("z"))
        self.said("xlh", block(block(say("x"), raise_("e"), last=(say("l"),)), say("y"), handlers=(handler("", say("h")),)))

    def test_its_variables_are_there(self):
        self.assertEqual(self.results(block(set_("a", 5), variables=(variable("a"),), last=(set_("n", var("a")),)))[0], 5)

    def test_behind_its_handlers(self):
        self.said("hl", block(raise_("e"), handlers=(handler("", say("h")),), last=(say("l"),)))

    def test_what_takes_the_place(self):
        # Last leaves: the signal, the return, or the other jump is gone.
        for way in (raise_("e"), ("return", None), ("leave", "o")):
            inner = block(way, last=(say("l"), ("leave", "i")))
            self.said("lyz", block(block(inner, say("x"), label="i"), say("y"), label="o"), say("z"))
        # Last raises.
        for way in (raise_("e"), ("return", None), ("leave", "o"), say("x")):
            inner = block(way, last=(raise_("b"), say("y")))
            self.said("h" if way[0] != "set" else "xh", block(inner, label="o", handlers=(handler("b", say("h")),)))
        # Last returns.
        inner = block(raise_("e"), last=(say("l"), ("return", None)))
        self.said("l", inner, say("z"))

    def test_it_is_not_guarded_by_its_block(self):
        inner = block(handlers=(handler("", say("x")),), last=(raise_("b"),))
        self.said("h", block(inner, handlers=(handler("b", say("h")),)))

    def test_its_changes_stay(self):
        inner = block(put("t", a=7), raise_("e"), last=(put("t", a=8),), handlers=(handler("never"),))
        store = begun(("table", table("t", "a")), *programs(procedure("p", block(inner, handlers=(handler("e"),)))))
        run(store, "p")
        self.has_rows(store, "t")
        inner = block(put("t", a=7), raise_("e"), last=(put("t", a=8),), handlers=(handler("e"),))
        store = begun(("table", table("t", "a")), *programs(procedure("p", inner)))
        run(store, "p")
        self.has_rows(store, "t", (8,))

    def test_last_within_last(self):
        inner = block(say("c"), last=(block(say("d"), last=(say("e"),)), say("f")))
        self.said("abcdefg", block(say("a"), last=(say("b"), inner, say("g"))))

    def test_functions_have_last_parts(self):
        f = function("f", ("return", value(1)), last=(("if", ((FALSE, ()),), (("return", value(2)),)),))
        self.assertEqual(self.results(set_("n", ("call", "f", ())), things=programs(f))[0], 2)


class CauseTest(StoreTest):
    def raised_by(self, *given, **parts):
        """The Raised of a call of p."""
        store = begun(("table", table("t", "a")), *programs(*given))
        return self.raised(run, store, "p")

    def fields(self, error):
        return (error.word, error.details, error.program, error.place, error.stack, error.causes)

    def test_without_cause(self):
        error = self.raised_by(procedure("p", raise_("e", 1)))
        self.assertEqual(self.fields(error), ("e", (1,), "p", (0, 0), (), ()))

    def test_in_handlers(self):
        c = block(raise_("c"), handlers=(handler("c", raise_("d", 4)),))
        b = block(raise_("b", 2), handlers=(handler("b", c),))
        error = self.raised_by(procedure("p", raise_("a", 1), handlers=(handler("a", b),)))
        self.assertEqual(self.fields(error), ("d", (4,), "p", (1, 0, 1, 0, 1, 0), (), (
            ("c", (), "p", (1, 0, 1, 0, 0, 0)), ("b", (2,), "p", (1, 0, 0, 0)), ("a", (1,), "p", (0, 0)))))

    def test_behind_a_handler_it_is_no_cause(self):
        error = self.raised_by(procedure("p", block(raise_("a"), handlers=(handler(""),), last=(("look",),)), raise_("b")))
        self.assertEqual(self.fields(error), ("b", (), "p", (0, 1), (), ()))
        error = self.raised_by(procedure("p", block(raise_("a"), handlers=(handler(""),), last=(raise_("b"),))))
        self.assertEqual(self.fields(error), ("b", (), "p", (0, 0, 2, 0), (), ()))

    def test_in_last(self):
        error = self.raised_by(procedure("p", raise_("a"), last=(raise_("b"),)))
        self.assertEqual(self.fields(error), ("b", (), "p", (1, 0), (), (("a", (), "p", (0, 0)),)))
        # A last that runs at the end, or behind a return, handles nothing.
        error = self.raised_by(procedure("p", last=(raise_("b"),)))
        self.assertEqual(error.causes, ())
        error = self.raised_by(procedure("p", ("return", None), last=(raise_("b"),)))
        self.assertEqual(error.causes, ())

    def test_in_last_of_a_handler(self):
        inner = block(raise_("b"), last=(raise_("c"),))
        error = self.raised_by(procedure("p", raise_("a"), handlers=(handler("", inner),)))
        self.assertEqual(self.fields(error), ("c", (), "p", (1, 0, 1, 0), (), (
            ("b", (), "p", (1, 0, 0, 0)), ("a", (), "p", (0, 0)))))

    def test_in_what_is_called(self):
        error = self.raised_by(
            procedure("p", raise_("a"), handlers=(handler("", do("q")),)), procedure("q", put("t")),
            trigger("g", "t", "after", "put", set_("n", ("call", "f", ())), variables=(variable("n"),)),
            function("f", ("return", op("div", 1, 0))))
        self.assertEqual(self.fields(error), ("division", (), "f", (0, 0), (("p", (1, 0)), ("q", (0, 0)), ("g", (0, 0))), (
            ("a", (), "p", (0, 0)),)))

    def test_again_raises_it_as_it_was(self):
        inner = block(raise_("b", 2), handlers=(handler("", do("q"), ("again",)),))
        error = self.raised_by(procedure("p", raise_("a"), handlers=(handler("", inner),)), procedure("q"))
        self.assertEqual(self.fields(error), ("b", (2,), "p", (1, 0, 0, 0), (), (("a", (), "p", (0, 0)),)))
        # Last of a block in a handler: the signal of the handler, not that of the block.
        inner = block(raise_("b"), last=(("again",),))
        error = self.raised_by(procedure("p", raise_("a", 1), handlers=(handler("", inner),)))
        self.assertEqual(self.fields(error), ("a", (1,), "p", (0, 0), (), ()))

    def test_stacks(self):
        error = self.raised_by(
            procedure("p", ("look",), block(do("q", 5))), procedure("q", do("r"), params=(("a", "int", "in"),)),
            procedure("r", ("while", None, TRUE, (raise_("e"),))))
        self.assertEqual(self.fields(error), ("e", (), "r", (0, 0, 0, 0), (("p", (0, 1, 0, 0)), ("q", (0, 0))), ()))

    def test_places(self):
        wrong = op("div", 1, 0)
        for statement, place in (
            (set_("n", wrong), (0, 0)), (("if", ((FALSE, ()), (equal(wrong, 1), ())), ()), (0, 0)),
            (("if", ((FALSE, (("look",),)),), (("look",), set_("n", wrong))), (0, 0, 1, 1)),
            (block(variables=(variable("a", "int", wrong),)), (0, 0)),
            (("while", None, equal(wrong, 1), ()), (0, 0)),
            (("put", "t", (("a", wrong),), None), (0, 0)), (raise_("e", wrong), (0, 0)), (do("q", wrong), (0, 0)),
            (("while", None, TRUE, (block(last=(("look",), set_("n", wrong))),)), (0, 0, 0, 0, 1, 1)),
        ):
            error = self.raised_by(procedure("p", statement, variables=(variable("n"),)),
                                   procedure("q", params=(("a", "int", "in"),)))
            self.assertEqual((error.word, error.program, error.place), ("division", "p", place))

    def test_the_condition_of_a_later_round(self):
        loop = ("while", None, op("<", 0, op("div", 6, var("n"))), (set_("n", op("-", var("n"), 1)), block(("look",))))
        error = self.raised_by(procedure("p", loop, variables=(variable("n", "int", 2),)))
        self.assertEqual((error.word, error.place), ("division", (0, 0)))

    def test_variables_of_the_outermost_block(self):
        error = self.raised_by(procedure("p", variables=(variable("n", "int", op("div", 1, 0)),)))
        self.assertEqual((error.word, error.program, error.place), ("division", "p", ()))
