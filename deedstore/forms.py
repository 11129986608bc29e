"""The forms of tables, views, sequences and programs."""

from deedstore.kinds import FORMS, KINDS, has_own_form
from deedstore.trees import is_bounded
from deedstore.values import is_integer, is_value, is_word

CHECK_HEADS = ("value", "col", "op", "not", "null", "case")
DEFAULT_HEADS = ("value", "op", "not", "null", "case", "number")
ALL_HEADS = (
    "value", "var", "col", "field", "op", "not", "null", "case", "count", "sum", "least", "most",
    "number", "call", "word", "told",
)
ACTS = ("keep", "cascade", "null")

# What stands behind the head of a statement: "w" a word, "o" a word or None, "e" an
# expression, "m" an expression or None, "a" a tuple of expressions, "s" statements,
# "p" pairs of a word and an expression, "b" branches, "v" variables, "h" handlers,
# "g" a program.
STATEMENT_FORMS = {
    "block": "ovshs",
    "set": "we",
    "if": "bs",
    "while": "oes",
    "each": "owwes",
    "leave": "w",
    "next": "w",
    "return": "m",
    "put": "wpo",
    "fill": "wpweo",
    "change": "wpeo",
    "take": "weo",
    "get": "wwe",
    "open": "wwe",
    "fetch": "www",
    "changeat": "wp",
    "takeat": "w",
    "close": "w",
    "mark": "w",
    "back": "w",
    "free": "w",
    "look": "",
    "raise": "wa",
    "again": "",
    "do": "wa",
    "doby": "ea",
    "make": "g",
    "drop": "w",
    "new": "we",
    "skip": "",
}


def is_table(x):
    """Whether x has the form of a table."""
    if not is_bounded(x) or not is_tuple_of(x, 5) or not is_word(x[0]):
        return False
    if not all([isinstance(part, tuple) for part in x[1:]]) or not x[1]:
        return False
    if not all([_is_column(column) for column in x[1]]):
        return False
    if not all([is_words(key) and len(key) > 0 for key in x[2]]):
        return False
    return all([_is_check(check) for check in x[3]]) and all([_is_reference(part) for part in x[4]])


def is_tuple_of(x, many):
    """Whether x is a tuple of so many parts."""
    return isinstance(x, tuple) and len(x) == many


def is_words(x):
    """Whether x is a tuple of words."""
    return isinstance(x, tuple) and all([is_word(part) for part in x])


def _is_column(x):
    if not is_tuple_of(x, 4) or not is_word(x[0]) or x[1] not in KINDS:
        return False
    return isinstance(x[2], bool) and is_expression(x[3], DEFAULT_HEADS)


def _is_check(x):
    return is_tuple_of(x, 2) and is_word(x[0]) and is_expression(x[1], CHECK_HEADS)


def _is_reference(x):
    if not is_tuple_of(x, 5) or not is_word(x[0]) or not is_words(x[1]) or not is_word(x[2]):
        return False
    return x[3] in ACTS and isinstance(x[4], bool)


def is_expression(e, heads):
    """Whether e is an expression in which only these heads stand."""
    if not has_own_form(e) or e[0] not in heads:
        return False
    return all([is_expression(part, heads) for part in inner_expressions(e)])


def inner_expressions(e):
    """The expressions that are parts of this one, in order."""
    if e[0] == "call":
        return e[2]
    letters = FORMS[e[0]]
    return [part for part, letter in zip(e[1:], letters) if letter == "e"]


def is_view(x):
    """Whether x has the form of a view."""
    if not is_bounded(x) or not is_tuple_of(x, 5) or not is_word(x[0]) or not is_word(x[1]):
        return False
    if not isinstance(x[2], tuple) or not x[2]:
        return False
    if not all([is_words(pair) and len(pair) == 2 for pair in x[2]]):
        return False
    return is_expression(x[3], CHECK_HEADS) and isinstance(x[4], bool)


def is_sequence(x):
    """Whether x has the form of a sequence."""
    if not is_tuple_of(x, 3) or not is_word(x[0]):
        return False
    return all([is_integer(n) and is_value(n) for n in x[1:]]) and x[2] != 0


def is_program(x):
    """Whether x has the form of a program."""
    return is_bounded(x) and _is_inner_program(x)


def _is_inner_program(x):
    """Whether x, part of a tree that is in the bounds, has the form of a program."""
    if not isinstance(x, tuple) or len(x) < 4 or not is_word(x[1]) or not _is_block(x[-1]):
        return False
    if x[0] == "procedure":
        return len(x) == 4 and _are_params(x[2], ("in", "out", "both"))
    if x[0] == "function":
        return len(x) == 5 and _are_params(x[2], ("in",)) and x[3] in KINDS
    if x[0] != "trigger" or len(x) != 6 or not is_word(x[2]):
        return False
    return x[3] in ("before", "after") and x[4] in ("put", "change", "take")


def _are_params(x, ways):
    return isinstance(x, tuple) and all([_is_param(param, ways) for param in x])


def _is_param(x, ways):
    if not is_tuple_of(x, 3) or not is_word(x[0]) or x[2] not in ways:
        return False
    return x[1] in KINDS or _is_row_kind(x[1]) and x[2] == "in"


def _is_row_kind(x):
    """Whether x is the kind of a cursor or a row variable."""
    return is_tuple_of(x, 2) and x[0] in ("cursor", "row") and is_word(x[1])


def _is_block(x):
    return isinstance(x, tuple) and len(x) > 0 and x[0] == "block" and _is_statement(x)


def _is_statement(x):
    if not isinstance(x, tuple) or not x or not isinstance(x[0], str):
        return False
    letters = STATEMENT_FORMS.get(x[0])
    if letters is None or len(x) != 1 + len(letters):
        return False
    return all([_fits_letter(part, letter) for part, letter in zip(x[1:], letters)])


def _fits_letter(part, letter):
    """Whether this part of a statement is what a letter of STATEMENT_FORMS stands for."""
    if letter == "w":
        return is_word(part)
    if letter == "o":
        return part is None or is_word(part)
    if letter == "e":
        return is_expression(part, ALL_HEADS)
    if letter == "m":
        return part is None or is_expression(part, ALL_HEADS)
    if letter == "g":
        return _is_inner_program(part)
    test = PART_TESTS[letter]
    return isinstance(part, tuple) and all([test(inner) for inner in part])


def _is_full_expression(x):
    return is_expression(x, ALL_HEADS)


def _is_set(x):
    return is_tuple_of(x, 2) and is_word(x[0]) and is_expression(x[1], ALL_HEADS)


def _is_branch(x):
    return is_tuple_of(x, 2) and is_expression(x[0], ALL_HEADS) and _fits_letter(x[1], "s")


def _is_variable(x):
    if not is_tuple_of(x, 3) or not is_word(x[0]):
        return False
    if _is_row_kind(x[1]):
        return x[2] is None
    return x[1] in KINDS and (x[2] is None or is_expression(x[2], ALL_HEADS))


def _is_handler(x):
    return is_tuple_of(x, 2) and is_words(x[0]) and _fits_letter(x[1], "s")


PART_TESTS = {
    "a": _is_full_expression,
    "s": _is_statement,
    "p": _is_set,
    "b": _is_branch,
    "v": _is_variable,
    "h": _is_handler,
}
