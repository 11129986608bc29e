"""Statements on rows, with their triggers and cascades."""

from deedstore.engine import Task
from deedstore.evaluations import value_of
from deedstore.orders import Change, Order, Reading
from deedstore.references import check_references, referring_rows
from deedstore.runs import begin_trigger
from deedstore.signals import Trouble


class RowStatement(Task):
    """A statement on rows, or a cascade of one."""

    def __init__(self, order, is_cascade):
        self.order = order
        self.is_cascade = is_cascade
        self.stage = "begin"
        self.changes = []
        # The turn of a change, and within it of its triggers or references.
        self.turn = 0
        self.inner_turn = 0
        # The references to the table whose acts are due in this turn.
        self.due = []
        self.triggers_due = []
        self.since = None

    def go_on(self, machine):
        step = STAGES[self.stage]
        step(self, machine)

    def leave(self, machine):
        if not self.is_cascade:
            self.shut(machine)
        self.count_out(machine)
        machine.tasks.pop()

    def count_out(self, machine):
        """The statement runs no more."""
        machine.statements -= 1
        if self.is_cascade:
            machine.within -= 1

    def shut(self, machine):
        # A cascade is taken back with the statement that it belongs to.
        if not self.is_cascade:
            machine.core.go_back(self.since)
            machine.core.tell(("fail",))

    def begin_stage(self, stage):
        """Go through the changes again, for this stage."""
        self.stage = stage
        self.turn = 0
        self.inner_turn = 0


def begin_order(machine, order):
    """Begin the statement that does this order."""
    machine.statements += 1
    statement = RowStatement(order, False)
    statement.since = machine.core.point()
    machine.push(statement)


def begin_cascade(machine, order, changes):
    """Begin the cascade that makes these changes."""
    machine.check_depth()
    machine.within += 1
    machine.statements += 1
    statement = RowStatement(order, True)
    statement.changes = changes
    enter_triggers(statement, machine, "before")
    machine.push(statement)


def _begin(statement, machine):
    statement.stage = "read"
    order = statement.order
    machine.push(Reading(order, order.rows_to_go_through(machine.core)))


def _end_reading(statement, machine):
    statement.changes = machine.value
    enter_triggers(statement, machine, "before")


def enter_triggers(statement, machine, when):
    """Go through the changes for the triggers of this time."""
    order = statement.order
    catalogue = machine.core.catalogue
    statement.triggers_due = catalogue.triggers(order.table.word, when, order.event)
    statement.begin_stage(when)


def _run_trigger(statement, machine):
    """Begin the trigger whose turn it is, behind the others for this change."""
    change = statement.changes[statement.turn]
    trigger = statement.triggers_due[statement.inner_turn]
    nothing = (None,) * len(statement.order.table.columns)
    old = nothing if change.old is None else change.old
    new = nothing if change.new is None else change.new
    begin_trigger(machine, trigger, old, new)


def _run_before(statement, machine):
    """Run the before-triggers, each for the new row as the last one has left it."""
    if statement.turn == len(statement.changes) or not statement.triggers_due:
        _check_rows(statement, machine)
        return
    statement.stage = "before ended"
    _run_trigger(statement, machine)


def _end_before(statement, machine):
    """Take what a before-trigger has found."""
    is_skipped, new = machine.value
    change = statement.changes[statement.turn]
    statement.stage = "before"
    if change.new is not None:
        change.new = new
    statement.inner_turn += 1
    if is_skipped:
        del statement.changes[statement.turn]
        statement.inner_turn = 0
    elif statement.inner_turn == len(statement.triggers_due):
        statement.turn += 1
        statement.inner_turn = 0


def _check_rows(statement, machine):
    """Look at the new rows, write all, and look at the keys."""
    order = statement.order
    for change in statement.changes:
        if change.new is not None:
            _check_row(machine.core, order, change.new)
    for change in statement.changes:
        _write(machine.core, order, change)
    _check_key_values(machine.core, order.table, statement.changes)
    statement.begin_stage("cascade")


def _check_row(core, order, row):
    """Signals "null", "check" and "view" for a new row."""
    table = order.table
    for at, column in enumerate(table.columns):
        if row[at] is None and not table.may_be_null[at]:
            raise Trouble("null", (table.word, column))
    for word, c in table.checks:
        if value_of(core, c, table.places, row) is False:
            raise Trouble("check", (table.word, word))
    for layer in order.info.layers:
        if layer.is_whole and value_of(core, layer.c, table.places, row) is not True:
            raise Trouble("view", (layer.word,))


def _write(core, order, change):
    table = order.table.word
    if change.old is None:
        core.put_row(table, change.new)
    elif change.new is None:
        core.take_row(table, change.which)
    else:
        core.change_row(table, change.which, change.new)
        if order.cursor is not None:
            order.cursor.note_given(core.versions[change.which])


def _check_key_values(core, table, changes):
    """Signal "key" for the first new row whose values in a key another row has, too."""
    counts = []
    for places in table.key_places:
        count = {}
        for _, row in core.numbered_rows(table.word):
            values = tuple([row[at] for at in places])
            count[values] = count.get(values, 0) + 1
        counts.append(count)
    for change in changes:
        if change.new is None:
            continue
        for k, places in enumerate(table.key_places):
            values = tuple([change.new[at] for at in places])
            if None not in values and counts[k][values] > 1:
                raise Trouble("key", (table.word, k))


def _run_cascades(statement, machine):
    """Do the acts of the references to the values that have gone."""
    core = machine.core
    if statement.turn == len(statement.changes):
        enter_triggers(statement, machine, "after")
        return
    change = statement.changes[statement.turn]
    if statement.inner_turn == 0:
        statement.due = _references_due(core, statement.order.table, change)
    if statement.inner_turn == len(statement.due):
        statement.turn += 1
        statement.inner_turn = 0
        return
    info, reference = statement.due[statement.inner_turn]
    statement.inner_turn += 1
    _begin_act(machine, statement.order.table, change, info, reference)


def _references_due(core, table, change):
    """The references whose acts are due, if the values of the old row's main key have gone."""
    if change.old is None or not table.key_places:
        return []
    places = table.key_places[0]
    gone = [change.old[at] for at in places]
    if None in gone:
        return []
    for _, row in core.numbered_rows(table.word):
        if [row[at] for at in places] == gone:
            return []
    return [pair for pair in core.catalogue.references_to(table.word) if pair[1].act != "keep"]


def _begin_act(machine, table, change, info, reference):
    """Begin the cascade of this reference, if there is a row that refers to the values."""
    core = machine.core
    gone = [change.old[at] for at in table.key_places[0]]
    found = referring_rows(core, info, reference, gone)
    if not found:
        return
    values = [None] * len(gone)
    event = "change"
    if reference.act == "cascade" and change.new is None:
        event = "take"
    elif reference.act == "cascade":
        values = [change.new[at] for at in table.key_places[0]]
    changes = []
    for which, row in found:
        new = list(row)
        for at, value in zip(reference.places, values):
            new[at] = value
        changes.append(Change(which, row, None if event == "take" else tuple(new)))
    begin_cascade(machine, Order(core, None, event, info), changes)


def _run_after(statement, machine):
    """Run the after-triggers, with the rows as they were written."""
    if statement.turn == len(statement.changes) or not statement.triggers_due:
        _end(statement, machine)
        return
    if statement.inner_turn == len(statement.triggers_due):
        statement.turn += 1
        statement.inner_turn = 0
        return
    _run_trigger(statement, machine)
    statement.inner_turn += 1


def _end(statement, machine):
    """End the statement; the outermost one looks at the references first."""
    order = statement.order
    if machine.statements == 1:
        check_references(machine.core, False)
    statement.count_out(machine)
    many = len(statement.changes)
    cursor = order.cursor
    if cursor is not None and order.event == "take" and many > 0:
        cursor.fetched = None
    if order.result_word is not None:
        variable = order.frame.variable(order.result_word)
        variable.value = many
    machine.finish(many)


STAGES = {
    "begin": _begin,
    "read": _end_reading,
    "before": _run_before,
    "before ended": _end_before,
    "cascade": _run_cascades,
    "after": _run_after,
}
