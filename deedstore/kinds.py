"""The forms of expressions, and the kinds of those that need no store."""

from deedstore.errors import BadTree
from deedstore.trees import is_bounded
from deedstore.values import is_value, is_word, value_kind

KINDS = ("int", "text", "truth")

# What stands behind the head of an expression: "v" a value, "w" a word, "o" an
# operator, "e" an expression, "a" a tuple of expressions.
FORMS = {
    "value": "v",
    "var": "w",
    "col": "w",
    "field": "ww",
    "op": "oee",
    "not": "e",
    "null": "e",
    "case": "eee",
    "count": "we",
    "sum": "wee",
    "least": "wee",
    "most": "wee",
    "number": "w",
    "call": "wa",
}

# Of each operator the kinds that its parts may have (both the same), and its own.
OPERATORS = {
    "+": (("int",), "int"),
    "-": (("int",), "int"),
    "*": (("int",), "int"),
    "div": (("int",), "int"),
    "mod": (("int",), "int"),
    "join": (("text",), "text"),
    "=": (("int", "text", "truth"), "truth"),
    "<": (("int", "text"), "truth"),
    "and": (("truth",), "truth"),
    "or": (("truth",), "truth"),
}


def kind_of(e, columns, variables):
    """The kind of the expression e; None if it fits every kind.

    columns and variables are dicts from words to kinds. BadTree tells the
    first part of e that is wrong.
    """
    # What is beyond the bounds is no tree as a whole, whatever its parts are.
    if not is_bounded(e):
        raise BadTree((), "form")
    return _kind_at((), e, columns, variables)


def _kind_at(path, e, columns, variables):
    """The kind of e, which stands at this path of the whole expression."""
    if not _has_own_form(e):
        raise BadTree(path, "form")
    head = e[0]
    if head == "value":
        return value_kind(e[1])
    if head in ("col", "var"):
        names = columns if head == "col" else variables
        if e[1] not in names:
            raise BadTree(path, "name")
        return names[e[1]]
    if head not in ("op", "not", "null", "case"):
        # Tables, sequences, functions and row variables are not there.
        raise BadTree(path, "name")
    return _kind_by_parts(path, e, columns, variables)


def _has_own_form(e):
    """Whether e has the form of an expression, whatever the expressions in it are."""
    if not isinstance(e, tuple) or not e or not isinstance(e[0], str):
        return False
    letters = FORMS.get(e[0])
    if letters is None or len(e) != 1 + len(letters):
        return False
    return all([_fits_letter(part, letter) for part, letter in zip(e[1:], letters)])


def _fits_letter(part, letter):
    """Whether this part is what a letter of FORMS stands for."""
    if letter == "v":
        return is_value(part)
    if letter == "w":
        return is_word(part)
    if letter == "o":
        return isinstance(part, str) and part in OPERATORS
    if letter == "a":
        return isinstance(part, tuple)
    # An expression is looked at in its turn, with a path of its own.
    return True


def _kind_by_parts(path, e, columns, variables):
    """The kind of an op, not, null or case, of which the own form is right."""
    wanted = _wanted_kinds(e)
    first = len(e) - len(wanted)
    kinds = [_kind_at((*path, k), e[k], columns, variables) for k in range(first, len(e))]
    for at, kind in enumerate(kinds):
        if kind is not None and kind not in wanted[at]:
            raise BadTree((*path, first + at), "kind")
    if e[0] in ("op", "case") and None not in kinds[-2:] and kinds[-2] != kinds[-1]:
        raise BadTree((*path, len(e) - 1), "kind")
    return _own_kind(e, kinds)


def _wanted_kinds(e):
    """The kinds that each expression in an op, not, null or case may have."""
    if e[0] == "op":
        allowed = OPERATORS[e[1]][0]
        return (allowed, allowed)
    if e[0] == "not":
        return (("truth",),)
    if e[0] == "null":
        return (KINDS,)
    return (("truth",), KINDS, KINDS)


def _own_kind(e, kinds):
    """The kind of an op, not, null or case whose parts have these kinds."""
    if e[0] == "op":
        return OPERATORS[e[1]][1]
    if e[0] == "case":
        return kinds[2] if kinds[1] is None else kinds[1]
    return "truth"
