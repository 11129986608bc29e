"""The forms of expressions, and their kinds."""

from deedstore.errors import BadTree
from deedstore.trees import is_bounded
from deedstore.values import is_integer, is_value, is_word, value_kind

KINDS = ("int", "text", "truth")

# What stands behind the head of an expression: "v" a value, "w" a word, "o" an
# operator, "e" an expression, "a" a tuple of expressions, "n" an integer from 0
# on, "k" a kind.
FORMS = {
    "value": "v",
    "var": "w",
    "col": "w",
    "field": "ww",
    "op": "oee",
    "not": "e",
    "null": "e",
    "case": "eee",
    "count": "we",
    "sum": "wee",
    "least": "wee",
    "most": "wee",
    "number": "w",
    "call": "wa",
    "word": "",
    "told": "nk",
}

# These stand in programs only.
PROGRAM_HEADS = ("word", "told")

# Of each operator the kinds that its parts may have (both the same), and its own.
OPERATORS = {
    "+": (("int",), "int"),
    "-": (("int",), "int"),
    "*": (("int",), "int"),
    "div": (("int",), "int"),
    "mod": (("int",), "int"),
    "join": (("text",), "text"),
    "=": (("int", "text", "truth"), "truth"),
    "<": (("int", "text"), "truth"),
    "and": (("truth",), "truth"),
    "or": (("truth",), "truth"),
}


class Flaw(Exception):
    """The part of an expression at this path is wrong.

    fault is "form", "name", "kind", "quiet" or "handler"; word is the word that
    is not there, or may not stand there.
    """

    def __init__(self, path, fault, word):
        self.path = path
        self.fault = fault
        self.word = word


class Scope:
    """What an expression can name.

    columns and variables are dicts from words to kinds; catalogue tells of
    tables, sequences and functions, or is None where none are there.
    """

    def __init__(self, columns, variables, catalogue):
        self.columns = columns
        self.variables = variables
        self.catalogue = catalogue
        self.in_program = False
        self.is_quiet = False
        self.in_handler = False

    def over(self, columns):
        """The same scope, but with other columns."""
        other = Scope(columns, self.variables, self.catalogue)
        other.in_program = self.in_program
        other.is_quiet = self.is_quiet
        other.in_handler = self.in_handler
        return other


def kind_of(e, columns, variables):
    """The kind of the expression e; None if it fits every kind.

    columns and variables are dicts from words to kinds. BadTree tells the
    first part of e that is wrong.
    """
    return tree_kind((), e, Scope(columns, variables, None))


def tree_kind(path, e, scope):
    """The kind of e, any value, at this path; BadTree with the first part that is wrong."""
    # What is beyond the bounds is no tree as a whole, whatever its parts are.
    if not is_bounded(e):
        raise BadTree(path, "form")
    try:
        return kind_at(path, e, scope)
    except Flaw as flaw:
        raise BadTree(flaw.path, flaw.fault) from None


def kind_at(path, e, scope):
    """The kind of e, which stands at this path of the whole; Flaw with the first wrong part."""
    if not has_own_form(e) or e[0] in PROGRAM_HEADS and not scope.in_program:
        raise Flaw(path, "form", None)
    look = LOOKS[e[0]]
    return look(path, e, scope)


def has_own_form(e):
    """Whether e has the form of an expression, whatever the expressions in it are."""
    if not isinstance(e, tuple) or not e or not isinstance(e[0], str):
        return False
    letters = FORMS.get(e[0])
    if letters is None or len(e) != 1 + len(letters):
        return False
    return all([_fits_letter(part, letter) for part, letter in zip(e[1:], letters)])


def _fits_letter(part, letter):
    """Whether this part is what a letter of FORMS stands for."""
    if letter == "v":
        return is_value(part)
    if letter == "w":
        return is_word(part)
    if letter == "o":
        return isinstance(part, str) and part in OPERATORS
    if letter == "a":
        return isinstance(part, tuple)
    if letter == "n":
        return is_integer(part) and part >= 0
    if letter == "k":
        return part in KINDS
    # An expression is looked at in its turn, with a path of its own.
    return True


def _value_kind(path, e, scope):
    return value_kind(e[1])


def _column_kind(path, e, scope):
    if e[1] not in scope.columns:
        raise Flaw(path, "name", e[1])
    return scope.columns[e[1]]


def _variable_kind(path, e, scope):
    if e[1] not in scope.variables:
        raise Flaw(path, "name", e[1])
    return scope.variables[e[1]]


def _field_kind(path, e, scope):
    row_kind = scope.variables.get(e[1])
    if scope.catalogue is None or not isinstance(row_kind, tuple) or row_kind[0] != "row":
        raise Flaw(path, "name", e[1])
    info = scope.catalogue.table_or_view(row_kind[1])
    if info is None or e[2] not in info.kinds:
        raise Flaw(path, "name", e[2])
    return info.kinds[e[2]]


def _kind_by_parts(path, e, scope):
    """The kind of an op, not, null or case."""
    wanted = _wanted_kinds(e)
    first = len(e) - len(wanted)
    kinds = [kind_at((*path, k), e[k], scope) for k in range(first, len(e))]
    for at, kind in enumerate(kinds):
        if kind is not None and kind not in wanted[at]:
            raise Flaw((*path, first + at), "kind", None)
    if e[0] in ("op", "case") and None not in kinds[-2:] and kinds[-2] != kinds[-1]:
        raise Flaw((*path, len(e) - 1), "kind", None)
    return _own_kind(e, kinds)


def _wanted_kinds(e):
    """The kinds that each expression in an op, not, null or case may have."""
    if e[0] == "op":
        allowed = OPERATORS[e[1]][0]
        return (allowed, allowed)
    if e[0] == "not":
        return (("truth",),)
    if e[0] == "null":
        return (KINDS,)
    return (("truth",), KINDS, KINDS)


def _own_kind(e, kinds):
    """The kind of an op, not, null or case whose parts have these kinds."""
    if e[0] == "op":
        return OPERATORS[e[1]][1]
    if e[0] == "case":
        return kinds[2] if kinds[1] is None else kinds[1]
    return "truth"


def _kind_over_rows(path, e, scope):
    """The kind of a count, sum, least or most."""
    info = None if scope.catalogue is None else scope.catalogue.table_or_view(e[1])
    if info is None:
        raise Flaw(path, "name", e[1])
    inner = scope.over(info.kinds)
    kinds = [kind_at((*path, k), e[k], inner) for k in range(2, len(e))]
    if e[0] != "count" and kinds[0] is not None:
        if kinds[0] not in (("int",) if e[0] == "sum" else ("int", "text")):
            raise Flaw((*path, 2), "kind", None)
    if kinds[-1] is not None and kinds[-1] != "truth":
        raise Flaw((*path, len(e) - 1), "kind", None)
    return kinds[0] if e[0] in ("least", "most") else "int"


def _number_kind(path, e, scope):
    if scope.is_quiet:
        raise Flaw(path, "quiet", "number")
    if scope.catalogue is None or not scope.catalogue.has_sequence(e[1]):
        raise Flaw(path, "name", e[1])
    return "int"


def _call_kind(path, e, scope):
    function = None if scope.catalogue is None else scope.catalogue.program_info(e[1], "function")
    if function is None:
        raise Flaw(path, "name", e[1])
    _, _, params, own, _ = function.tree
    kinds = [kind_at((*path, 2, k), arg, scope) for k, arg in enumerate(e[2])]
    for k, arg in enumerate(e[2]):
        if k >= len(params) or not fits_param(arg, kinds[k], params[k]):
            raise Flaw((*path, 2, k), "kind", None)
    if len(kinds) < len(params):
        raise Flaw(path, "kind", None)
    return own


def fits_param(arg, kind, param):
    """Whether an arg of this kind can be passed for a param of a program."""
    _, wanted, way = param
    if isinstance(wanted, tuple) or way != "in":
        return arg[0] == "var" and kind == wanted
    return kind is None or kind == wanted


def _word_kind(path, e, scope):
    if not scope.in_handler:
        raise Flaw(path, "handler", e[0])
    return "text" if e[0] == "word" else e[2]


LOOKS = {
    "value": _value_kind,
    "var": _variable_kind,
    "col": _column_kind,
    "field": _field_kind,
    "op": _kind_by_parts,
    "not": _kind_by_parts,
    "null": _kind_by_parts,
    "case": _kind_by_parts,
    "count": _kind_over_rows,
    "sum": _kind_over_rows,
    "least": _kind_over_rows,
    "most": _kind_over_rows,
    "number": _number_kind,
    "call": _call_kind,
    "word": _word_kind,
    "told": _word_kind,
}
