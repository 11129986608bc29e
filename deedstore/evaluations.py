"""The values of expressions, and the rows that tables and views show."""

from deedstore.engine import Task
from deedstore.runs import begin_function
from deedstore.signals import Trouble
from deedstore.values import GREATEST, LONGEST_VALUE, value_kind


class Rows:
    """The rows that a count, sum, least or most goes through, and what it has so far."""

    def __init__(self, e, held):
        self.head = e[0]
        self.c = e[-1]
        self.a = None if e[0] == "count" else e[2]
        self.held = held
        self.turn = 0
        self.total = 0 if e[0] == "count" else None


class Evaluation(Task):
    """The evaluation of an expression, part by part.

    The row that is gone through is passed with the places of its columns. As
    functions may be called, this is a task; without calls work_on ends at once.
    """

    def __init__(self, core, frame, e, places, row):
        self.core = core
        self.frame = frame
        self.machine = None
        # What is to be done, the next one last: expressions, and tuples with other heads.
        self.work = [e]
        self.parts = []
        self.scopes = [(places, row)]
        self.gone_through = []
        self.has_called = False

    def work_on(self, machine):
        """Go on; whether the value is found, so that no function comes first."""
        self.machine = machine
        work = self.work
        while work:
            item = work.pop()
            action = ACTIONS[item[0]]
            action(self, item)
            if self.has_called:
                return False
        return True

    def go_on(self, machine):
        self.has_called = False
        self.parts.append(machine.value)
        if self.work_on(machine):
            machine.finish(self.parts[0])


def value_of(core, e, places, row):
    """The value of an expression that calls no function and names no variable."""
    evaluation = Evaluation(core, None, e, places, row)
    evaluation.work_on(None)
    return evaluation.parts[0]


def evaluate(machine, frame, e, places, row):
    """Evaluate e for the topmost task: whether its value is there, or comes when it goes on."""
    evaluation = Evaluation(machine.core, frame, e, places, row)
    machine.push(evaluation)
    if evaluation.work_on(machine):
        machine.finish(evaluation.parts[0])
        return True
    return False


def table_rows(core, info):
    """The rows of the table under a table or view, with their numbers."""
    return core.numbered_rows(info.base)


def shown_rows(core, info):
    """The rows that a table or view shows, with their numbers."""
    found = table_rows(core, info)
    if info.thing_kind == "table":
        return found
    base = core.catalogue.infos[info.base]
    places = [base.places[info.base_columns[column]] for column in info.columns]
    shown = []
    for which, row in found:
        # One after the other, so that no condition is evaluated behind one that does not hold.
        if all_hold(core, info.layers, base.places, row):
            shown.append((which, tuple([row[at] for at in places])))
    return shown


def all_hold(core, layers, places, row):
    """Whether the conditions of all these views are True, in order, up to one that is not."""
    for layer in layers:
        if value_of(core, layer.c, places, row) is not True:
            return False
    return True


def _take_value(evaluation, e):
    evaluation.parts.append(e[1])


def _take_variable(evaluation, e):
    evaluation.parts.append(evaluation.frame.variable(e[1]).value)


def _take_column(evaluation, e):
    places, row = evaluation.scopes[-1]
    evaluation.parts.append(row[places[e[1]]])


def _take_field(evaluation, e):
    variable = evaluation.frame.variable(e[1])
    info = evaluation.core.catalogue.table_or_view(variable.kind[1])
    evaluation.parts.append(variable.value[info.places[e[2]]])


def _begin_operation(evaluation, e):
    _, o, a, b = e
    if o in ("and", "or"):
        evaluation.work.extend([("second", o, b), a])
    else:
        evaluation.work.extend([("apply", o), b, a])


def _begin_second(evaluation, item):
    """Behind the first part of and, or: the second one, if it is needed."""
    _, o, b = item
    if evaluation.parts[-1] != (o == "or"):
        evaluation.work.extend([("apply", o), b])


def _apply(evaluation, item):
    b = evaluation.parts.pop()
    a = evaluation.parts.pop()
    evaluation.parts.append(_applied(item[1], a, b))


def _applied(o, a, b):
    """The value of an operation."""
    if o in ("and", "or"):
        return _joined_truth(o == "or", a, b)
    if a is None or b is None:
        return None
    operation = OPERATIONS[o]
    found = operation(a, b)
    check_range(found)
    return found


def _joined_truth(deciding, a, b):
    """The value of and, or; deciding is the truth that decides it, whatever the other part is."""
    # If the first part had decided it, the second one had not been evaluated.
    if b == deciding:
        return deciding
    return None if a is None or b is None else not deciding


def check_range(found):
    """Signal "range" if this integer, string or truth is not a value."""
    if isinstance(found, str):
        if len(found) > LONGEST_VALUE:
            raise Trouble("range", ())
    elif not -GREATEST <= found <= GREATEST:
        raise Trouble("range", ())


def _plus(a, b):
    return a + b


def _minus(a, b):
    return a - b


def _times(a, b):
    return a * b


def _divided(a, b):
    if b == 0:
        raise Trouble("division", ())
    return a // b


def _rest(a, b):
    return a - b * _divided(a, b)


def _is_same(a, b):
    return a == b


def _is_less(a, b):
    return a < b


OPERATIONS = {
    "+": _plus,
    "-": _minus,
    "*": _times,
    "div": _divided,
    "mod": _rest,
    "join": _plus,
    "=": _is_same,
    "<": _is_less,
}


def _begin_not(evaluation, e):
    evaluation.work.extend([("negate",), e[1]])


def _negate(evaluation, item):
    truth = evaluation.parts.pop()
    evaluation.parts.append(None if truth is None else not truth)


def _begin_null(evaluation, e):
    evaluation.work.extend([("nothing",), e[1]])


def _is_nothing(evaluation, item):
    evaluation.parts.append(evaluation.parts.pop() is None)


def _begin_case(evaluation, e):
    evaluation.work.extend([("choose", e[2], e[3]), e[1]])


def _choose(evaluation, item):
    evaluation.work.append(item[1] if evaluation.parts.pop() is True else item[2])


def _begin_rows(evaluation, e):
    info = evaluation.core.catalogue.table_or_view(e[1])
    evaluation.gone_through.append(Rows(e, shown_rows(evaluation.core, info)))
    evaluation.scopes.append((info.places, None))
    evaluation.work.append(("turn",))


def _turn_to_row(evaluation, item):
    """Go on to the next row of the innermost count, sum, least or most, or end it."""
    rows = evaluation.gone_through[-1]
    if rows.turn == len(rows.held):
        evaluation.gone_through.pop()
        evaluation.scopes.pop()
        evaluation.parts.append(rows.total)
        return
    places, _ = evaluation.scopes[-1]
    evaluation.scopes[-1] = (places, rows.held[rows.turn][1])
    rows.turn += 1
    evaluation.work.extend([("turn",), ("decide",), rows.c])


def _decide_row(evaluation, item):
    """Behind the condition for a row: whether the row counts."""
    rows = evaluation.gone_through[-1]
    if evaluation.parts.pop() is not True:
        return
    if rows.a is None:
        rows.total += 1
    else:
        evaluation.work.extend([("grow",), rows.a])


def _grow(evaluation, item):
    """Behind the expression for a row that counts."""
    rows = evaluation.gone_through[-1]
    value = evaluation.parts.pop()
    if value is None:
        return
    if rows.total is None:
        rows.total = value
    elif rows.head == "sum":
        rows.total += value
        check_range(rows.total)
    elif rows.head == "least":
        rows.total = value if value < rows.total else rows.total
    else:
        rows.total = rows.total if value < rows.total else value


def _take_number(evaluation, e):
    evaluation.parts.append(evaluation.core.give_number(e[1]))


def _begin_call(evaluation, e):
    evaluation.work.append(("call with", e[1], len(e[2])))
    evaluation.work.extend(list(reversed(e[2])))


def _call(evaluation, item):
    _, word, many = item
    first = len(evaluation.parts) - many
    args = evaluation.parts[first:]
    del evaluation.parts[first:]
    evaluation.has_called = True
    begin_function(evaluation.machine, word, args)


def _take_word(evaluation, e):
    evaluation.parts.append(evaluation.frame.handling[-1].word)


def _take_told(evaluation, e):
    _, k, kind = e
    details = evaluation.frame.handling[-1].details
    found = details[k] if k < len(details) else None
    evaluation.parts.append(found if value_kind(found) == kind else None)


ACTIONS = {
    "value": _take_value,
    "var": _take_variable,
    "col": _take_column,
    "field": _take_field,
    "op": _begin_operation,
    "second": _begin_second,
    "apply": _apply,
    "not": _begin_not,
    "negate": _negate,
    "null": _begin_null,
    "nothing": _is_nothing,
    "case": _begin_case,
    "choose": _choose,
    "count": _begin_rows,
    "sum": _begin_rows,
    "least": _begin_rows,
    "most": _begin_rows,
    "turn": _turn_to_row,
    "decide": _decide_row,
    "grow": _grow,
    "number": _take_number,
    "call": _begin_call,
    "call with": _call,
    "word": _take_word,
    "told": _take_told,
}
