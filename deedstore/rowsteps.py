"""Statements of programs on rows: changes of tables, and cursors."""

from deedstore.changing import begin_order
from deedstore.controls import gather
from deedstore.engine import Task
from deedstore.orders import change_order, cursor_order, fill_order, put_order, take_order
from deedstore.signals import Trouble


def _put(machine, frame, tree, place):
    _, table, sets, into = tree
    core = machine.core
    _begin(machine, put_order(core, frame, core.catalogue.table_or_view(table), sets), into)


def _fill(machine, frame, tree, place):
    _, table, sets, source, c, into = tree
    core = machine.core
    source_info = core.catalogue.table_or_view(source)
    order = fill_order(core, frame, core.catalogue.table_or_view(table), sets, source_info, c)
    _begin(machine, order, into)


def _change(machine, frame, tree, place):
    _, table, sets, c, into = tree
    core = machine.core
    _begin(machine, change_order(core, frame, core.catalogue.table_or_view(table), sets, c), into)


def _take(machine, frame, tree, place):
    _, table, c, into = tree
    core = machine.core
    _begin(machine, take_order(core, frame, core.catalogue.table_or_view(table), c), into)


def _begin(machine, order, into):
    order.result_word = into
    begin_order(machine, order)


class Get(Task):
    """A get, behind the finding of the rows."""

    def __init__(self, frame, word):
        self.frame = frame
        self.word = word

    def go_on(self, machine):
        chosen = machine.value
        machine.finish(None)
        if len(chosen) != 1:
            raise Trouble("manyrows" if chosen else "norow", ())
        variable = self.frame.variable(self.word)
        variable.value = chosen[0][1]


def _get(machine, frame, tree, place):
    _, word, table, c = tree
    machine.push(Get(frame, word))
    gather(machine, frame, table, c)


class Opening(Task):
    """An open, behind the finding of the rows."""

    def __init__(self, cursor):
        self.cursor = cursor

    def go_on(self, machine):
        cursor = self.cursor
        versions = machine.core.versions
        if cursor.kept is not None:
            # A function in the condition has opened it.
            machine.close_cursor(cursor)
        cursor.kept = machine.value
        cursor.versions = {which: versions[which] for which, _ in cursor.kept}
        cursor.upcoming = 0
        cursor.fetched = None
        machine.openings += 1
        cursor.opening = machine.openings
        machine.cursors.append(cursor)
        machine.finish(None)


def _open(machine, frame, tree, place):
    _, word, table, c = tree
    cursor = frame.variable(word).value
    if cursor.kept is not None:
        machine.close_cursor(cursor)
    machine.push(Opening(cursor))
    gather(machine, frame, table, c)


def _open_cursor(frame, word):
    """The cursor of this variable; signal "cursor" if it is closed."""
    cursor = frame.variable(word).value
    if cursor.kept is None:
        raise Trouble("cursor", (word,))
    return cursor


def _fetch(machine, frame, tree, place):
    _, word, row_word, found_word = tree
    cursor = _open_cursor(frame, word)
    found = frame.variable(found_word)
    found.value = cursor.upcoming < len(cursor.kept)
    cursor.fetched = None
    if found.value:
        row = frame.variable(row_word)
        cursor.fetched, row.value = cursor.kept[cursor.upcoming]
        cursor.upcoming += 1


def _close(machine, frame, tree, place):
    machine.close_cursor(_open_cursor(frame, tree[1]))


def _changeat(machine, frame, tree, place):
    _begin_at(machine, frame, "change", tree[1], tree[2])


def _takeat(machine, frame, tree, place):
    _begin_at(machine, frame, "take", tree[1], ())


def _begin_at(machine, frame, event, word, sets):
    """Begin a changeat or takeat; a signal at once leaves the statement, too."""
    core = machine.core
    try:
        cursor = _fetched_cursor(core, frame, word)
    except Trouble as trouble:
        machine.come_up(trouble.word, trouble.details)
        core.tell(("fail",))
        return
    begin_order(machine, cursor_order(core, frame, event, cursor, sets))


def _fetched_cursor(core, frame, word):
    """The cursor of this variable, of which a row is fetched that is there as it was."""
    cursor = _open_cursor(frame, word)
    if cursor.fetched is None:
        raise Trouble("cursor", (word,))
    if not cursor.has_known(core.versions.get(cursor.fetched)):
        raise Trouble("gone", (core.catalogue.table_or_view(cursor.table).base,))
    return cursor


ROW_STEPS = {
    "put": _put,
    "fill": _fill,
    "change": _change,
    "take": _take,
    "get": _get,
    "open": _open,
    "fetch": _fetch,
    "changeat": _changeat,
    "takeat": _takeat,
    "close": _close,
}
