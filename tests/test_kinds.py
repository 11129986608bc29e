"""Points 11 and 12, and the interface's section deedstore/kinds.py."""

import itertools
import unittest

from deedstore.errors import BadTree
from deedstore.kinds import kind_of
from tests.helpers import NULL, ONE, TEXT, TRUE, nested

COLUMNS = {"a": "int", "b": "text", "c": "truth", "abcdefgh": "int"}
VARIABLES = {"n": "int", "t": "text", "u": "truth", "a": "text"}

# An expression of each kind, and of none.
OF_KIND = {"int": ONE, "text": TEXT, "truth": TRUE, None: NULL}

# Of each operator the kinds of its parts and its own.
OPERATORS = {
    "+": (("int",), "int"),
    "-": (("int",), "int"),
    "*": (("int",), "int"),
    "div": (("int",), "int"),
    "mod": (("int",), "int"),
    "join": (("text",), "text"),
    "=": (("int", "text", "truth"), "truth"),
    "<": (("int", "text"), "truth"),
    "and": (("truth",), "truth"),
    "or": (("truth",), "truth"),
}

NOT_VALUES = (
    10 ** 30 + 1, -(10 ** 30) - 1, 10 ** 99, "a" * 41, "a" * 1000, "%", "a\n", "\u00e9",
    "\x1f", "\x7f",
    (), (1,), ("value", 1), [], [1], {}, {"a": 1}, b"a",
)
NOT_WORDS = (
    "", "A", "aB", "a1", "a b", "abcdefghi", "a_b", "\u00e9", "a\n", "a{", "`a", 0, 1, None, True, False,
    (), ("a",), [], ["a"], {}, {"a": "int"}, b"a",
)
NOT_EXPRESSIONS = (
    None, True, False, 0, 5, "", "a", "value", [], ["value", 1], {}, {"value": 1}, b"value",
    (), ("value",), ("none", 1), ("Value", 1), ("values", 1), (1, 2), (None, 1), ((), 1),
    (("value", 1),), ([], 1), ({}, 1), (True, 1), ("word",), ("told", 0, "text"), ("told", 0),
)


class KindTest(unittest.TestCase):
    def is_kind(self, e, kind):
        found = kind_of(e, COLUMNS, VARIABLES)
        self.assertEqual((found, type(found)), (kind, type(kind)), e)

    def is_wrong(self, e, path, word):
        with self.assertRaises(BadTree, msg=e) as caught:
            kind_of(e, COLUMNS, VARIABLES)
        self.assertEqual((caught.exception.path, caught.exception.word), (path, word), e)
        self.assertIs(type(caught.exception.path), tuple)


def within(e):
    """e at each place of an expression in which it may stand, with its path there."""
    yield ("not", e), (1,)
    yield ("null", e), (1,)
    yield ("op", "=", e, NULL), (2,)
    yield ("op", "=", NULL, e), (3,)
    yield ("case", e, NULL, NULL), (1,)
    yield ("case", TRUE, e, NULL), (2,)
    yield ("case", TRUE, NULL, e), (3,)
    yield ("not", ("null", ("op", "and", NULL, ("case", NULL, NULL, e)))), (1, 1, 3, 3)


class RightTest(KindTest):
    def test_example_of_the_document(self):
        e = ("op", "<", ("col", "a"), ("var", "n"))
        self.assertEqual(kind_of(e, {"a": "int"}, {"n": "int"}), "truth")

    def test_by_name(self):
        found = kind_of(variables={"n": "text"}, columns={}, e=("var", "n"))
        self.assertEqual(found, "text")

    def test_values(self):
        for value in (0, 1, -1, 10 ** 30, -(10 ** 30)):
            self.is_kind(("value", value), "int")
        for value in ("", "a", "a" * 40, "~" * 40, ' "\\', "$&"):
            self.is_kind(("value", value), "text")
        self.is_kind(("value", True), "truth")
        self.is_kind(("value", False), "truth")
        self.is_kind(("value", None), None)

    def test_columns_and_variables(self):
        for word, kind in COLUMNS.items():
            self.is_kind(("col", word), kind)
        for word, kind in VARIABLES.items():
            self.is_kind(("var", word), kind)

    def test_operations(self):
        for o, (kinds, own) in OPERATORS.items():
            for kind in kinds:
                part = OF_KIND[kind]
                self.is_kind(("op", o, part, part), own)
                self.is_kind(("op", o, part, NULL), own)
                self.is_kind(("op", o, NULL, part), own)
            self.is_kind(("op", o, NULL, NULL), own)

    def test_not_and_null(self):
        self.is_kind(("not", TRUE), "truth")
        self.is_kind(("not", NULL), "truth")
        for part in OF_KIND.values():
            self.is_kind(("null", part), "truth")

    def test_case(self):
        for c in (TRUE, NULL, ("col", "c")):
            for kind, part in OF_KIND.items():
                self.is_kind(("case", c, part, part), kind)
                self.is_kind(("case", c, part, NULL), kind)
                self.is_kind(("case", c, NULL, part), kind)

    def test_a_case_of_two_nulls_fits_every_kind(self):
        null = ("case", TRUE, NULL, ("case", NULL, NULL, NULL))
        self.is_kind(null, None)
        for o, (kinds, own) in OPERATORS.items():
            self.is_kind(("op", o, null, OF_KIND[kinds[0]]), own)
            self.is_kind(("op", o, OF_KIND[kinds[0]], null), own)
        self.is_kind(("case", null, null, ONE), "int")
        self.is_kind(("case", null, TEXT, null), "text")
        self.is_kind(("not", null), "truth")

    def test_an_operation_of_nulls_has_the_kind_of_its_operator(self):
        self.is_wrong(("op", "join", ("op", "+", NULL, NULL), TEXT), (2,), "kind")
        self.is_wrong(("op", "+", ONE, ("not", NULL)), (3,), "kind")
        self.is_wrong(("case", NULL, ("op", "join", NULL, NULL), ONE), (3,), "kind")

    def test_deep_ones(self):
        e = ("col", "a")
        for _ in range(9):
            e = ("op", "+", ("op", "*", e, ONE), ("var", "n"))
        self.is_kind(e, "int")
        self.is_kind(("case", ("op", "=", e, e), ("null", e), ("op", "<", NULL, e)), "truth")

    def test_nothing_is_changed(self):
        columns, variables = {"a": "int"}, {"n": "int"}
        kind_of(("op", "+", ("col", "a"), ("var", "n")), columns, variables)
        for e in (("col", "zz"), ("var", "a"), ("op", "join", ("col", "a"), TEXT)):
            with self.assertRaises(BadTree):
                kind_of(e, columns, variables)
        self.assertEqual((columns, variables), ({"a": "int"}, {"n": "int"}))


class FormTest(KindTest):
    def test_no_expressions(self):
        for e in NOT_EXPRESSIONS:
            self.is_wrong(e, (), "form")
            for whole, path in within(e):
                self.is_wrong(whole, path, "form")

    def test_no_values(self):
        for value in NOT_VALUES:
            self.is_wrong(("value", value), (), "form")
            for whole, path in within(("value", value)):
                self.is_wrong(whole, path, "form")

    def test_no_words(self):
        for x in NOT_WORDS:
            for e in (
                ("col", x), ("var", x), ("field", x, "a"), ("field", "a", x), ("number", x),
                ("count", x, TRUE), ("sum", x, ONE, TRUE), ("least", x, ONE, TRUE),
                ("most", x, ONE, TRUE), ("call", x, ()),
            ):
                self.is_wrong(e, (), "form")

    def test_no_operators(self):
        for o in ("", "/", "==", ">", "<=", "AND", "xor", "not", "%", "+ ", 0, None, True, (),
                  ("+",), [], ["+"], {}, {"+": 1}):
            self.is_wrong(("op", o, ONE, ONE), (), "form")
            self.is_wrong(("not", ("op", o, ONE, [])), (1,), "form")

    def test_too_few_and_too_many_parts(self):
        for e in (
            ("value", 1), ("var", "n"), ("col", "a"), ("field", "a", "a"), ("op", "+", ONE, ONE),
            ("not", TRUE), ("null", ONE), ("case", TRUE, ONE, ONE), ("count", "t", TRUE),
            ("sum", "t", ONE, TRUE), ("least", "t", ONE, TRUE), ("most", "t", ONE, TRUE),
            ("number", "s"), ("call", "f", ()),
        ):
            for wrong in [e[:k] for k in range(len(e))] + [e + (None,), e + e[-1:], e + ((),)]:
                self.is_wrong(wrong, (), "form")

    def test_args_that_are_no_tuple(self):
        for args in (None, 1, "a", [], [ONE], {}, True):
            self.is_wrong(("call", "f", args), (), "form")

    def test_lists_are_no_trees(self):
        self.is_wrong(["op", "+", ONE, ONE], (), "form")
        self.is_wrong(("op", "+", list(ONE), ONE), (2,), "form")
        self.is_wrong(("op", "+", ONE, ["col", "a"]), (3,), "form")

    def test_true_is_no_integer(self):
        self.is_wrong(("op", "+", ("value", True), ONE), (2,), "kind")
        self.is_wrong(("op", "=", ONE, ("value", True)), (3,), "kind")
        self.is_wrong(("not", ("value", 1)), (1,), "kind")
        self.is_wrong(("op", "or", TRUE, ("value", 0)), (3,), "kind")


class BoundsTest(KindTest):
    def test_depth(self):
        e = TRUE
        # A value is two deep.
        for _ in range(28):
            e = ("not", e)
        self.is_kind(e, "truth")
        self.is_wrong(("not", e), (), "form")
        self.is_wrong(("op", "and", ("col", "zz"), e), (), "form")
        self.is_wrong(("case", 1, 2, ("not", e)), (), "form")

    def test_depth_of_what_is_no_expression(self):
        self.is_wrong(nested(29), (), "form")
        self.is_wrong(("not", nested(27)), (1,), "form")
        self.is_wrong(("not", nested(28)), (1,), "form")
        self.is_wrong(("not", nested(29)), (), "form")
        self.is_wrong(("not", nested(28, 1)), (1,), "form")
        self.is_wrong(("not", nested(29, 1)), (), "form")
        self.is_wrong(("op", "+", ONE, ("value", nested(28))), (), "form")

    def test_far_deeper(self):
        e = TRUE
        for _ in range(5000):
            e = ("not", e)
        self.is_wrong(e, (), "form")
        self.is_wrong(("op", "and", TRUE, e), (), "form")
        self.is_wrong(nested(100000), (), "form")

    def test_parts(self):
        self.is_kind(truth_of(1999), "truth")
        self.is_wrong(truth_of(2001), (), "form")
        self.is_wrong(truth_of(20001), (), "form")

    def test_parts_of_a_wrong_expression(self):
        field = ("field", "a", "a")
        self.is_wrong(("op", "or", truth_of(1993), field), (3,), "name")
        self.is_wrong(("op", "or", field, truth_of(1995)), (), "form")
        self.is_wrong(("op", "or", [], truth_of(1996 - 3)), (2,), "form")
        self.is_wrong(("op", "or", [], truth_of(1997)), (), "form")

    def test_parts_of_what_is_no_expression(self):
        self.is_wrong(("call", "f", (0,) * 1996), (), "name")
        self.is_wrong(("call", "f", (0,) * 1997), (), "form")
        self.is_wrong(("call", "f", ((),) * 1996), (), "name")
        self.is_wrong(("call", "f", ((0,),) * 999), (), "form")
        self.is_wrong(("not", ("call", "f", (0,) * 1994)), (1,), "name")
        self.is_wrong(("not", ("call", "f", (0,) * 1995)), (), "form")

    def test_shared_parts_count_each_time(self):
        e = ONE
        for _ in range(25):
            e = ("op", "+", e, e)
        self.is_wrong(e, (), "form")
        for _ in range(2000):
            e = ("op", "+", e, e)
        self.is_wrong(e, (), "form")


def truth_of(many):
    """A truth with so many parts, an odd number from 3 on, and not deep."""
    if many < 9:
        return {3: TRUE, 5: ("not", TRUE), 7: ("null", ("not", TRUE))}[many]
    # An op has three parts more than the two expressions in it have.
    first = (many - 3) // 2
    if first % 2 == 0:
        first += 1
    return ("op", "or", truth_of(first), truth_of(many - 3 - first))


class NameTest(KindTest):
    def test_columns_and_variables_that_are_not_there(self):
        for e in (("col", "n"), ("col", "zz"), ("var", "b"), ("var", "zz"), ("col", "value")):
            self.is_wrong(e, (), "name")
            for whole, path in within(e):
                self.is_wrong(whole, path, "name")

    def test_nothing_is_there(self):
        for e in (("col", "a"), ("var", "n")):
            with self.assertRaises(BadTree) as caught:
                kind_of(e, {}, {})
            self.assertEqual((caught.exception.path, caught.exception.word), ((), "name"))

    def test_tables_sequences_functions_and_rows(self):
        for e in (
            ("field", "a", "a"), ("field", "n", "a"), ("number", "a"), ("number", "n"),
            ("count", "a", TRUE), ("sum", "a", ONE, TRUE), ("least", "a", ONE, TRUE),
            ("most", "a", TEXT, TRUE), ("call", "a", ()), ("call", "n", (ONE,)),
        ):
            self.is_wrong(e, (), "name")
            for whole, path in within(e):
                self.is_wrong(whole, path, "name")

    def test_their_name_goes_ahead_of_their_parts(self):
        self.is_wrong(("count", "a", 5), (), "name")
        self.is_wrong(("sum", "a", [], ("col", "A")), (), "name")
        self.is_wrong(("least", "a", TRUE, ONE), (), "name")
        self.is_wrong(("most", "a", ("col", "zz"), ("col", "zz")), (), "name")
        self.is_wrong(("call", "a", ([], 5)), (), "name")


class KindFaultTest(KindTest):
    def test_operations(self):
        for o, (kinds, _) in OPERATORS.items():
            right = OF_KIND[kinds[0]]
            for wrong in {"int", "text", "truth"} - set(kinds):
                part = OF_KIND[wrong]
                self.is_wrong(("op", o, part, right), (2,), "kind")
                self.is_wrong(("op", o, right, part), (3,), "kind")
                self.is_wrong(("op", o, part, part), (2,), "kind")
                self.is_wrong(("op", o, part, NULL), (2,), "kind")
                self.is_wrong(("op", o, NULL, part), (3,), "kind")

    def test_parts_of_two_kinds(self):
        for first, second in itertools.permutations(("int", "text", "truth"), 2):
            a, b = OF_KIND[first], OF_KIND[second]
            self.is_wrong(("op", "=", a, b), (3,), "kind")
            self.is_wrong(("case", TRUE, a, b), (3,), "kind")
            self.is_wrong(("case", NULL, a, b), (3,), "kind")
            path = (2,) if first == "truth" else (3,)
            self.is_wrong(("op", "<", a, b), path, "kind")

    def test_no_order_of_truths(self):
        self.is_wrong(("op", "<", TRUE, TRUE), (2,), "kind")
        self.is_wrong(("op", "<", NULL, TRUE), (3,), "kind")
        self.is_wrong(("op", "<", ("null", ONE), ONE), (2,), "kind")

    def test_not_and_case(self):
        for part in (ONE, TEXT):
            self.is_wrong(("not", part), (1,), "kind")
            self.is_wrong(("case", part, ONE, ONE), (1,), "kind")
            self.is_wrong(("case", part, ONE, TEXT), (1,), "kind")

    def test_columns_and_variables(self):
        self.is_wrong(("op", "+", ("col", "a"), ("var", "a")), (3,), "kind")
        self.is_wrong(("op", "join", ("col", "a"), ("var", "a")), (2,), "kind")
        self.is_wrong(("not", ("col", "b")), (1,), "kind")
        self.is_wrong(("case", ("var", "n"), NULL, NULL), (1,), "kind")

    def test_within_others(self):
        for whole, path in within(("op", "+", ONE, TEXT)):
            self.is_wrong(whole, (*path, 3), "kind")
        for whole, path in within(("case", TRUE, NULL, ("not", ONE))):
            self.is_wrong(whole, (*path, 3, 1), "kind")

    def test_a_case_as_part(self):
        text = ("case", TRUE, NULL, ("case", NULL, TEXT, NULL))
        self.is_kind(("op", "join", text, TEXT), "text")
        self.is_wrong(("op", "+", text, ONE), (2,), "kind")
        self.is_wrong(("op", "=", ONE, text), (3,), "kind")


class OrderTest(KindTest):
    def test_own_form_goes_ahead_of_parts(self):
        self.is_wrong(("op", "?", [], ("col", "zz")), (), "form")
        self.is_wrong(("not", ("col", "zz"), []), (), "form")
        self.is_wrong(("case", 1, 2), (), "form")

    def test_parts_go_from_left_to_right(self):
        self.is_wrong(("op", "+", [], ("col", "zz")), (2,), "form")
        self.is_wrong(("op", "+", ("col", "zz"), []), (2,), "name")
        self.is_wrong(("op", "+", ("not", ONE), ("col", "zz")), (2, 1), "kind")
        self.is_wrong(("case", ("col", "zz"), 1, 2), (1,), "name")
        self.is_wrong(("case", TRUE, 1, 2), (2,), "form")
        self.is_wrong(("case", TRUE, ("not", ("not", ONE)), 2), (2, 1, 1), "kind")

    def test_all_parts_go_ahead_of_their_kinds(self):
        self.is_wrong(("op", "+", TEXT, ("col", "zz")), (3,), "name")
        self.is_wrong(("op", "+", TEXT, []), (3,), "form")
        self.is_wrong(("op", "+", TEXT, ("op", "+", ONE, ("not", ONE))), (3, 3, 1), "kind")
        self.is_wrong(("op", "<", TRUE, ("value", 10 ** 31)), (3,), "form")
        self.is_wrong(("case", ONE, ONE, ("col", "zz")), (3,), "name")
        self.is_wrong(("case", ONE, ("count", "t", TRUE), TEXT), (2,), "name")

    def test_kinds_go_from_left_to_right(self):
        self.is_wrong(("op", "and", ONE, TEXT), (2,), "kind")
        self.is_wrong(("op", "and", TRUE, TEXT), (3,), "kind")
        self.is_wrong(("case", ONE, ONE, TEXT), (1,), "kind")

    def test_inner_kinds_go_ahead_of_outer_ones(self):
        inner = ("op", "+", ONE, TEXT)
        self.is_wrong(("not", inner), (1, 3), "kind")
        self.is_wrong(("op", "join", TRUE, inner), (3, 3), "kind")
        self.is_wrong(("op", "join", inner, TRUE), (2, 3), "kind")


if __name__ == "__main__":
    unittest.main()
