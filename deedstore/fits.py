"""Whether things can be made and dropped: BadThing, Known, Unknown and Used."""

from deedstore.errors import BadThing, Known, Unknown, Used
from deedstore.forms import is_program, is_sequence, is_table, is_view
from deedstore.kinds import Flaw, Scope, kind_at
from deedstore.values import is_word

# What stands for the kind of a column that a view has from a table that is not there.
NO_KIND = "none"


def check_sequence(catalogue, thing):
    """BadThing or Known if this sequence cannot be added."""
    if not is_sequence(thing):
        raise BadThing("form", first_word(thing, 0))
    if thing[0] in catalogue.infos:
        raise Known(thing[0])


def check_make(catalogue, things):
    """BadThing or Known if these things, any values, cannot be made together."""
    for pair in things:
        _check_form(pair)
    words = {}
    for kind, tree in things:
        word = tree[1] if kind == "program" else tree[0]
        if word in catalogue.infos or word in words:
            raise Known(word)
        words[word] = True
    plans = _plans(catalogue, things)
    for kind, tree in things:
        if kind == "table":
            _check_table(catalogue, plans, tree)
    for kind, tree in things:
        if kind == "view" and not _view_fits(plans, tree):
            raise BadThing("view", tree[0])


def _check_form(pair):
    """BadThing if this is no pair of a kind and a thing of its form."""
    if not isinstance(pair, tuple) or len(pair) != 2:
        raise BadThing("form", None)
    kind, tree = pair
    if kind == "table" and is_table(tree) or kind == "view" and is_view(tree):
        return
    if kind == "program" and is_program(tree):
        return
    raise BadThing("form", first_word(tree, 1 if kind == "program" else 0))


def first_word(thing, at):
    """The word at this place of a thing of any form, None if there is none."""
    if isinstance(thing, tuple) and len(thing) > at and is_word(thing[at]):
        return thing[at]
    return None


def _plans(catalogue, things):
    """The pairs of all tables and views, those that are there and the new ones, by words."""
    plans = {}
    for word in catalogue.words("table") + catalogue.words("view"):
        info = catalogue.infos[word]
        plans[word] = (info.thing_kind, info.tree)
    for kind, tree in things:
        if kind != "program":
            plans[tree[0]] = (kind, tree)
    return plans


def _check_table(catalogue, plans, tree):
    """BadThing with the first reason for which this table does not fit."""
    word, columns, key_parts, checks, references = tree
    kinds = {column[0]: column[1] for column in columns}
    tests = (
        ("column", _columns_fit(catalogue, columns, kinds)),
        ("key", all([_are_columns(key, kinds) for key in key_parts])),
        ("check", _checks_fit(checks, kinds)),
        ("reference", _references_fit(plans, references, columns)),
    )
    for reason, fits in tests:
        if not fits:
            raise BadThing(reason, word)


def _columns_fit(catalogue, columns, kinds):
    if len(kinds) < len(columns):
        return False
    scope = Scope({}, {}, catalogue)
    return all([_is_of_kind(column[3], scope, column[1]) for column in columns])


def _is_of_kind(e, scope, kind):
    """Whether an expression of right form has no flaw, and this kind."""
    try:
        found = kind_at((), e, scope)
    except Flaw:
        return False
    return found is None or found == kind


def _are_columns(words, kinds):
    """Whether these are columns, and all different."""
    return len(set(words)) == len(words) and all([word in kinds for word in words])


def _checks_fit(checks, kinds):
    if not _are_different([word for word, _ in checks]):
        return False
    scope = Scope(kinds, {}, None)
    return all([_is_of_kind(c, scope, "truth") for _, c in checks])


def _are_different(words):
    return len(set(words)) == len(words)


def _references_fit(plans, references, columns):
    if not _are_different([part[0] for part in references]):
        return False
    return all([_reference_fits(plans, part, columns) for part in references])


def _reference_fits(plans, reference, columns):
    _, words, table, act, _ = reference
    kinds = {column[0]: column[1] for column in columns}
    kind, tree = plans.get(table, (None, None))
    if kind != "table" or not tree[2] or not _are_columns(words, kinds):
        return False
    other_kinds = {column[0]: column[1] for column in tree[1]}
    wanted = [other_kinds.get(column, NO_KIND) for column in tree[2][0]]
    if [kinds[word] for word in words] != wanted:
        return False
    may_be_null = {column[0]: column[2] for column in columns}
    return act != "null" or all([may_be_null[word] for word in words])


def _view_fits(plans, tree):
    _, table, pairs, c, _ = tree
    kinds = _kinds_of_columns(plans, table, tree[0])
    columns = [column for _, column in pairs]
    if not _are_different([word for word, _ in pairs]) or not _are_columns(columns, kinds):
        return False
    return _is_of_kind(c, Scope(kinds, {}, None), "truth")


def _kinds_of_columns(plans, word, view):
    """The kinds of the columns of the table or view under this view.

    There are none if it is not there, or if the views under it go round. (If it is
    there, but not all under it, its columns are of no kind: another view does not
    fit.)
    """
    over = []
    passed = {view: True}
    while word in plans and plans[word][0] == "view":
        if word in passed:
            return {}
        passed[word] = True
        over.append(plans[word][1])
        word = plans[word][1][1]
    kinds = {}
    if word in plans:
        kinds = {column[0]: column[1] for column in plans[word][1][1]}
    for tree in reversed(over):
        kinds = {name: kinds.get(column, NO_KIND) for name, column in tree[2]}
    return kinds


def check_drop(catalogue, words):
    """Unknown or Used if the things with these words, any values, cannot be dropped together."""
    passed = {}
    for word in words:
        if not is_word(word) or word in passed:
            raise Unknown(word)
        if word not in catalogue.infos or catalogue.has_sequence(word):
            raise Unknown(word)
        passed[word] = True
    for word in sorted(catalogue.words("table") + catalogue.words("view")):
        if word in passed:
            continue
        info = catalogue.infos[word]
        named = [info.tree[1]]
        if info.thing_kind == "table":
            named = [part.table for part in info.references]
        if any([name in passed for name in named]):
            raise Used(word)
