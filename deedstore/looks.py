"""The first fault of a program against a catalogue."""

from deedstore.kinds import KINDS, Flaw, Scope, fits_param, kind_at

QUIET = (
    "put", "fill", "change", "take", "changeat", "takeat", "mark", "back", "free", "do", "doby",
    "make", "drop", "look",
)


class Fault(Exception):
    """A program has this fault, a pair of words, at this place."""

    def __init__(self, place, fault):
        self.place = place
        self.fault = fault


class Around:
    """What is around a statement.

    variables has kinds by words, trigger_rows those of old and new that are not
    hidden, labels what has each label ("block" or "loop").
    """

    def __init__(self, variables, trigger_rows, labels, in_handler):
        self.variables = variables
        self.trigger_rows = trigger_rows
        self.labels = labels
        self.in_handler = in_handler

    def within_block(self, statement):
        """The same with the variables of this block."""
        variables = dict(self.variables)
        trigger_rows = dict(self.trigger_rows)
        for word, kind, _ in statement[2]:
            variables[word] = kind
            trigger_rows.pop(word, None)
        return Around(variables, trigger_rows, self.labels, self.in_handler)

    def within_label(self, label, owner):
        """The same within the block or loop with this label, a word or None."""
        labels = dict(self.labels)
        if label is not None:
            labels[label] = owner
        return Around(self.variables, self.trigger_rows, labels, self.in_handler)

    def within_handler(self):
        """The same within the statements of a handler."""
        return Around(self.variables, self.trigger_rows, self.labels, True)


class Look:
    """A look at one statement of a program."""

    def __init__(self, catalogue, program):
        self.catalogue = catalogue
        self.program = program
        self.is_quiet = program[0] == "function"
        if program[0] == "trigger":
            self.is_quiet = program[3] == "before"
        self.place = ()
        self.around = None
        self.statement = None

    def fail(self, name, word):
        """The statement has this fault."""
        raise Fault(self.place, (name, word))

    def fail_kind(self):
        """Some part of the statement is of the wrong kind."""
        self.fail("kind", self.statement[0])

    def rows_of(self, word):
        """What is known of a table or view that is there."""
        info = self.catalogue.table_or_view(word)
        if info is None:
            self.fail("name", word)
        return info

    def kind_of_variable(self, word):
        """The kind of a variable that is there."""
        if word not in self.around.variables:
            self.fail("name", word)
        return self.around.variables[word]

    def kind_within(self, e, columns):
        """The kind of an expression that has no fault."""
        scope = Scope(columns, self.around.variables, self.catalogue)
        scope.in_program = True
        scope.is_quiet = self.is_quiet
        scope.in_handler = self.around.in_handler
        try:
            return kind_at((), e, scope)
        except Flaw as flaw:
            if flaw.fault == "kind":
                self.fail_kind()
            self.fail(flaw.fault, flaw.word)

    def expect(self, e, columns, wanted):
        """The expression has no fault and one of these kinds."""
        kind = self.kind_within(e, columns)
        if kind is not None and kind not in wanted:
            self.fail_kind()

    def expect_variable(self, word, kind):
        """The variable is there and of this kind."""
        if self.kind_of_variable(word) != kind:
            self.fail_kind()

    def row_kind(self, word, head):
        """The kind of a variable that is there and a row or a cursor, whichever head says."""
        kind = self.kind_of_variable(word)
        if not isinstance(kind, tuple) or kind[0] != head:
            self.fail_kind()
        if head == "row" and word in self.around.trigger_rows:
            self.fail_kind()
        return kind

    def expect_sets(self, sets, targets, columns):
        """The sets have no fault; targets are the kinds of the columns that they can set."""
        passed = {}
        for column, e in sets:
            if column not in targets or column in passed:
                self.fail("name", column)
            passed[column] = True
            self.expect(e, columns, (targets[column],))

    def expect_new_label(self, label):
        """This label is not around already."""
        if label is not None and label in self.around.labels:
            self.fail("twice", label)


def first_fault(catalogue, program):
    """The place and fault of the first fault of a program of right form, or None."""
    look = Look(catalogue, program)
    try:
        _look_at_program(look, program)
    except Fault as found:
        return (found.place, found.fault)
    return None


def _look_at_program(look, program):
    around = Around({}, {}, {}, False)
    if program[0] == "trigger":
        table = program[2]
        if look.catalogue.of_kind(table, "table") is None:
            look.fail("name", table)
        around.variables = {"old": ("row", table), "new": ("row", table)}
        around.trigger_rows = {"old": True, "new": True}
    else:
        for word, kind, _ in program[2]:
            if word in around.variables:
                look.fail("twice", word)
            around.variables[word] = kind
            if isinstance(kind, tuple):
                look.rows_of(kind[1])
    _look_at(look, around, (), program[-1])


def _look_at(look, around, place, statement):
    """Look at a statement, then at those in it."""
    look.around = around
    look.place = place
    look.statement = statement
    if look.is_quiet and statement[0] in QUIET:
        look.fail("quiet", statement[0])
    test = TESTS.get(statement[0])
    if test is not None:
        test(look, statement)
    for number, statements, inner in _inner_parts(around, statement):
        for k, part in enumerate(statements):
            _look_at(look, inner, (*place, number, k), part)


def _inner_parts(around, statement):
    """The parts of a statement that have statements: number, statements, what is around them."""
    if statement[0] == "if":
        branches = [branch[1] for branch in statement[1]] + [statement[2]]
        return [(k, statements, around) for k, statements in enumerate(branches)]
    if statement[0] in ("while", "each"):
        return [(0, statement[-1], around.within_label(statement[1], "loop"))]
    if statement[0] != "block":
        return []
    _, label, _, statements, handlers, last = statement
    behind = around.within_block(statement)
    inner = behind.within_label(label, "block")
    found = [(0, statements, inner)]
    for k, handler in enumerate(handlers):
        found.append((1 + k, handler[1], inner.within_handler()))
    found.append((1 + len(handlers), last, behind))
    return found


def _test_block(look, statement):
    look.expect_new_label(statement[1])
    outer = look.around
    look.around = outer.within_block(statement)
    passed = {}
    for word, kind, e in statement[2]:
        if word in passed:
            look.fail("twice", word)
        passed[word] = True
        if isinstance(kind, tuple):
            look.rows_of(kind[1])
        elif e is not None:
            look.expect(e, {}, (kind,))
    look.around = outer


def _test_set(look, statement):
    kind = look.kind_of_variable(statement[1])
    if isinstance(kind, tuple):
        look.fail_kind()
    look.expect(statement[2], {}, (kind,))


def _test_if(look, statement):
    for c, _ in statement[1]:
        look.expect(c, {}, ("truth",))


def _test_while(look, statement):
    look.expect_new_label(statement[1])
    look.expect(statement[2], {}, ("truth",))


def _test_each(look, statement):
    _, label, word, table, c, _ = statement
    look.expect_new_label(label)
    _test_rows(look, "row", word, table, c)


def _test_rows(look, head, word, table, c):
    """Look at a row or cursor variable, a table that it fits, and a condition over its rows."""
    kind = look.row_kind(word, head)
    info = look.rows_of(table)
    if kind[1] != table:
        look.fail_kind()
    look.expect(c, info.kinds, ("truth",))


def _test_leave(look, statement):
    owner = look.around.labels.get(statement[1])
    if owner is None or statement[0] == "next" and owner != "loop":
        look.fail("label", statement[1])


def _test_return(look, statement):
    program = look.program
    e = statement[1]
    if (program[0] == "function") != (e is not None):
        look.fail("return", "return")
    if e is not None:
        look.expect(e, {}, (program[3],))


def _test_put(look, statement):
    _, table, sets, into = statement
    look.expect_sets(sets, look.rows_of(table).kinds, {})
    _test_into(look, into)


def _test_into(look, into):
    if into is not None:
        look.expect_variable(into, "int")


def _test_fill(look, statement):
    _, table, sets, source, c, into = statement
    info = look.catalogue.table_or_view(source)
    targets = look.rows_of(table).kinds
    look.expect_sets(sets, targets, {} if info is None else info.kinds)
    look.expect(c, look.rows_of(source).kinds, ("truth",))
    _test_into(look, into)


def _test_change(look, statement):
    _, table, sets, c, into = statement
    info = look.rows_of(table)
    look.expect_sets(sets, info.kinds, info.kinds)
    look.expect(c, info.kinds, ("truth",))
    _test_into(look, into)


def _test_take(look, statement):
    _, table, c, into = statement
    look.expect(c, look.rows_of(table).kinds, ("truth",))
    _test_into(look, into)


def _test_get(look, statement):
    _test_rows(look, "row", statement[1], statement[2], statement[3])


def _test_cursor_rows(look, statement):
    _test_rows(look, "cursor", statement[1], statement[2], statement[3])


def _test_fetch(look, statement):
    _, word, row, found = statement
    kind = look.row_kind(word, "cursor")
    if look.row_kind(row, "row")[1] != kind[1]:
        look.fail_kind()
    look.expect_variable(found, "truth")


def _test_cursor(look, statement):
    look.row_kind(statement[1], "cursor")


def _test_changeat(look, statement):
    kind = look.row_kind(statement[1], "cursor")
    kinds = look.rows_of(kind[1]).kinds
    look.expect_sets(statement[2], kinds, kinds)


def _test_raise(look, statement):
    for e in statement[2]:
        look.expect(e, {}, KINDS)


def _test_again(look, statement):
    if not look.around.in_handler:
        look.fail("handler", "again")


def _test_do(look, statement):
    _, word, args = statement
    info = look.catalogue.program_info(word, "procedure")
    if info is None:
        look.fail("name", word)
    params = info.tree[2]
    for k, arg in enumerate(args):
        kind = look.kind_within(arg, {})
        if k < len(params) and not fits_param(arg, kind, params[k]):
            look.fail_kind()
    if len(args) != len(params):
        look.fail_kind()


def _test_doby(look, statement):
    look.expect(statement[1], {}, ("text",))
    for arg in statement[2]:
        look.kind_within(arg, {})


def _test_new(look, statement):
    program = look.program
    if program[0] != "trigger" or program[3] != "before" or program[4] == "take":
        look.fail("trigger", "new")
    info = look.catalogue.table_or_view(program[2])
    if statement[1] not in info.kinds:
        look.fail("trigger", statement[1])
    look.expect(statement[2], {}, (info.kinds[statement[1]],))


def _test_skip(look, statement):
    if look.program[0] != "trigger" or look.program[3] != "before":
        look.fail("trigger", "skip")


TESTS = {
    "block": _test_block,
    "set": _test_set,
    "if": _test_if,
    "while": _test_while,
    "each": _test_each,
    "leave": _test_leave,
    "next": _test_leave,
    "return": _test_return,
    "put": _test_put,
    "fill": _test_fill,
    "change": _test_change,
    "take": _test_take,
    "get": _test_get,
    "open": _test_cursor_rows,
    "fetch": _test_fetch,
    "changeat": _test_changeat,
    "takeat": _test_cursor,
    "close": _test_cursor,
    "raise": _test_raise,
    "again": _test_again,
    "do": _test_do,
    "doby": _test_doby,
    "new": _test_new,
    "skip": _test_skip,
}
