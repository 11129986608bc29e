"""What a statement on rows is to do, and the reading of its changes."""

from deedstore.catalogues import renamed
from deedstore.engine import Task
from deedstore.evaluations import evaluate, shown_rows, table_rows, value_of


class Change:
    """A change of a row: its number, the old and the new row.

    A row that is put has no number and no old row, a row that is taken has no
    new one.
    """

    def __init__(self, which, old, new):
        self.which = which
        self.old = old
        self.new = new


class Order:
    """What a statement is to do with the rows of a table.

    event is "put", "change" or "take"; info is what is known of the table or view
    that it names, table of the table that has the rows.
    """

    def __init__(self, core, frame, event, info):
        self.frame = frame
        self.event = event
        self.info = info
        self.table = core.catalogue.infos[info.base]
        # The rows that are gone through are those of this table or view, if it is there.
        self.source = None
        self.given = [(None, ())]
        # The places of the columns that its expressions name.
        self.places = {}
        self.c = None
        # The places of the columns that it sets, with expressions.
        self.sets = []
        self.cursor = None
        # The variable that gets the result, or None.
        self.result_word = None

    def set_columns(self, sets, is_own):
        """Take these sets; their columns are the own ones of the table or view, or others."""
        for column, e in sets:
            at = self.table.places[self.info.base_columns[column]]
            self.sets.append((at, renamed(e, self.info.base_columns) if is_own else e))

    def rows_to_go_through(self, core):
        """The rows that are gone through, with their numbers."""
        if self.source is None:
            return self.given
        if self.event == "put":
            return shown_rows(core, self.source)
        return table_rows(core, self.source)


def put_order(core, frame, info, sets):
    """The order of a put."""
    order = Order(core, frame, "put", info)
    order.set_columns(sets, False)
    return order


def fill_order(core, frame, info, sets, source, c):
    """The order of a fill."""
    order = put_order(core, frame, info, sets)
    order.source = source
    order.places = source.places
    order.c = c
    return order


def change_order(core, frame, info, sets, c):
    """The order of a change."""
    order = _own_order(core, frame, "change", info, c)
    order.set_columns(sets, True)
    return order


def take_order(core, frame, info, c):
    """The order of a take."""
    return _own_order(core, frame, "take", info, c)


def _own_order(core, frame, event, info, c):
    """The order of a statement that goes through the rows of its table."""
    order = Order(core, frame, event, info)
    order.source = info
    order.places = order.table.places
    order.c = renamed(c, info.base_columns)
    for layer in reversed(info.layers):
        order.c = ("op", "and", layer.c, order.c)
    return order


def cursor_order(core, frame, event, cursor, sets):
    """The order of a changeat or takeat: its only row is the one that was fetched last."""
    order = Order(core, frame, event, core.catalogue.table_or_view(cursor.table))
    order.cursor = cursor
    which = cursor.fetched
    order.given = [(which, core.held[order.table.word][which])]
    order.places = order.table.places
    order.set_columns(sets, True)
    return order


class Reading(Task):
    """The reading of a statement: it finds the list of its changes."""

    def __init__(self, order, rows):
        self.order = order
        self.gone_through = rows
        self.turn = 0
        self.changes = []
        # What is evaluated for each row: the condition, if there is one, then the sets.
        self.expressions = [e for _, e in order.sets]
        if order.c is not None:
            self.expressions.insert(0, order.c)
        self.values_so_far = []
        self.has_asked = False

    def go_on(self, machine):
        order = self.order
        if self.has_asked:
            self.receive(machine.value)
        while self.turn < len(self.gone_through):
            many = len(self.values_so_far)
            if many == len(self.expressions):
                self.end_row(machine.core)
                continue
            row = self.gone_through[self.turn][1]
            self.has_asked = True
            if not evaluate(machine, order.frame, self.expressions[many], order.places, row):
                return
            self.receive(machine.value)
        machine.finish(self.changes)

    def receive(self, value):
        """Take the value of the expression that comes next."""
        self.has_asked = False
        if self.order.c is not None and not self.values_so_far and value is not True:
            self.turn += 1
            return
        self.values_so_far.append(value)

    def end_row(self, core):
        """Make the change of the present row, of which all is evaluated."""
        order = self.order
        which, row = self.gone_through[self.turn]
        values = self.values_so_far[len(self.expressions) - len(order.sets):]
        given = {at: value for (at, _), value in zip(order.sets, values)}
        if order.event == "put":
            self.changes.append(Change(None, None, _new_row(core, order, given)))
        elif order.event == "take":
            self.changes.append(Change(which, row, None))
        else:
            new = tuple([given.get(at, old) for at, old in enumerate(row)])
            self.changes.append(Change(which, row, new))
        self.turn += 1
        self.values_so_far = []


def _new_row(core, order, given):
    """The row that is put: values that are given, then fixed ones, then defaults."""
    table = order.table
    row = []
    for at, column in enumerate(table.columns):
        if at in given:
            row.append(given[at])
        elif column in order.info.fixed:
            row.append(order.info.fixed[column])
        else:
            row.append(value_of(core, table.defaults[at], {}, ()))
    return tuple(row)
