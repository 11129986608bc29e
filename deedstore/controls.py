"""Statements that have statements in them: blocks, branches and loops."""

from deedstore.engine import Task
from deedstore.evaluations import evaluate, shown_rows
from deedstore.frames import Variable
from deedstore.runs import Sequence, begin_round, free_marks, look_again, null_value, own_marks


class Block(Task):
    """A block: its guarded part (variables and statements), a handler, then last."""

    def __init__(self, frame, tree, place):
        self.frame = frame
        self.place = place
        _, self.label, self.variables, self.statements, self.handlers, self.last = tree
        self.stage = "variables"
        self.turn = 0
        self.has_asked = False
        # Whether this block has put a signal on those that are being handled.
        self.is_handling = False
        # The way that goes on behind last, or None.
        self.pending = None

    def go_on(self, machine):
        if self.stage == "variables":
            self.go_through_variables(machine)
        else:
            self.end_stage(machine)

    def leave(self, machine):
        way = machine.way
        if self.stage in ("variables", "statements") and way.manner == "signal":
            for k, handler in enumerate(self.handlers):
                if not handler[0] or way.signal.word in handler[0]:
                    self.handle(machine, way.signal, k)
                    return
        machine.way = None
        self.pending = way
        self.end_stage(machine)

    def go_through_variables(self, machine):
        """Evaluate the variables that have expressions, in order, then run the statements."""
        scope = self.frame.scopes[-1]
        if self.has_asked:
            self.set_variable(scope, machine.value)
        while self.turn < len(self.variables):
            e = self.variables[self.turn][2]
            if e is None:
                self.turn += 1
                continue
            self.has_asked = True
            if not evaluate(machine, self.frame, e, {}, ()):
                return
            self.set_variable(scope, machine.value)
        self.stage = "statements"
        machine.push(Sequence(self.frame, self.statements, (*self.place, 0)))

    def set_variable(self, scope, value):
        """Give the variable whose turn it is this value."""
        variable = scope[self.variables[self.turn][0]]
        variable.value = value
        self.turn += 1
        self.has_asked = False

    def handle(self, machine, signal, k):
        """Take back what the guarded part has done, and run the k-th handler."""
        core = machine.core
        owner = self.frame.owners.pop()
        core.undo_mark(owner.k)
        core.free_mark(owner.k)
        machine.close_since(owner.openings)
        core.tell(("catch", self.place, k))
        machine.way = None
        self.stage = "handler"
        self.frame.handling.append(signal)
        self.begin_handling(machine, signal)
        own_marks(machine, self.frame, None)
        machine.push(Sequence(self.frame, self.handlers[k][1], (*self.place, 1 + k)))

    def begin_handling(self, machine, signal):
        """From now on this signal is being handled."""
        self.is_handling = True
        machine.handled.append(signal)

    def end_stage(self, machine):
        """End the guarded part, a handler or last, in whatever way."""
        if self.stage == "handler":
            self.frame.handling.pop()
        if self.is_handling:
            self.is_handling = False
            machine.handled.pop()
        if self.handlers or self.stage == "last":
            free_marks(machine, self.frame)
        if self.last and self.stage != "last":
            self.begin_last(machine)
        else:
            self.end(machine)

    def begin_last(self, machine):
        """Run last; a signal because of which the block is left is being handled meanwhile."""
        self.stage = "last"
        machine.core.tell(("last", self.place))
        if self.pending is not None and self.pending.manner == "signal":
            self.begin_handling(machine, self.pending.signal)
        own_marks(machine, self.frame, None)
        place = (*self.place, 1 + len(self.handlers))
        machine.push(Sequence(self.frame, self.last, place))

    def end(self, machine):
        """End the block; what was going on goes on, but a leave of this block."""
        scope = self.frame.scopes.pop()
        for word, kind, _ in self.variables:
            if kind[0] == "cursor" and scope[word].value.kept is not None:
                machine.close_cursor(scope[word].value)
        machine.finish(None)
        way = self.pending
        if way is not None and way.manner == "leave" and way.label == self.label:
            way = None
        machine.way = way


def begin_block(machine, frame, tree, place):
    """Begin a block: its variables are there, as NULL, and its guard's mark is set."""
    catalogue = machine.core.catalogue
    scope = {word: Variable(kind, null_value(catalogue, kind)) for word, kind, _ in tree[2]}
    frame.scopes.append(scope)
    if tree[4]:
        own_marks(machine, frame, machine.core.set_mark())
    machine.push(Block(frame, tree, place))


class Branches(Task):
    """An if."""

    def __init__(self, frame, tree, place):
        self.frame = frame
        self.branches = tree[1]
        self.otherwise = tree[2]
        self.place = place
        self.turn = 0
        self.has_asked = False

    def go_on(self, machine):
        while True:
            if self.has_asked:
                self.has_asked = False
                if machine.value is True:
                    self.begin_branch(machine, self.branches[self.turn][1])
                    return
                self.turn += 1
            if self.turn == len(self.branches):
                self.begin_branch(machine, self.otherwise)
                return
            self.has_asked = True
            if not evaluate(machine, self.frame, self.branches[self.turn][0], {}, ()):
                return

    def begin_branch(self, machine, statements):
        """Run these statements instead of this task."""
        machine.tasks.pop()
        machine.push(Sequence(self.frame, statements, (*self.place, self.turn)))


def begin_if(machine, frame, tree, place):
    """Begin an if."""
    machine.push(Branches(frame, tree, place))


class Loop(Task):
    """What while and each have in common; label is None if they have none."""

    def __init__(self, frame, tree, place):
        self.frame = frame
        self.tree = tree
        self.place = place
        self.label = tree[1]
        self.has_asked = False

    def leave(self, machine):
        way = machine.way
        if way.manner not in ("leave", "next") or way.label != self.label:
            machine.tasks.pop()
            return
        machine.way = None
        if way.manner == "leave":
            machine.finish(None)

    def begin_statements(self, machine):
        """Run the statements of a round."""
        machine.push(Sequence(self.frame, self.tree[-1], (*self.place, 0)))


class While(Loop):
    """A while."""

    def go_on(self, machine):
        frame = self.frame
        if not self.has_asked:
            frame.place = self.place
            look_again(machine, frame)
            self.has_asked = True
            if not evaluate(machine, frame, self.tree[2], {}, ()):
                return
        self.has_asked = False
        if machine.value is not True:
            machine.finish(None)
            return
        begin_round(machine, frame, self.place)
        self.begin_statements(machine)


def begin_while(machine, frame, tree, place):
    """Begin a while."""
    machine.push(While(frame, tree, place))


class Gathering(Task):
    """Finds the rows that a table or view shows and for which a condition is True."""

    def __init__(self, frame, info, c, shown):
        self.frame = frame
        self.places = info.places
        self.c = c
        self.shown = shown
        self.turn = 0
        self.chosen = []
        self.has_asked = False

    def go_on(self, machine):
        if self.has_asked:
            self.decide(machine.value)
        while self.turn < len(self.shown):
            self.has_asked = True
            row = self.shown[self.turn][1]
            if not evaluate(machine, self.frame, self.c, self.places, row):
                return
            self.decide(machine.value)
        machine.finish(self.chosen)

    def decide(self, value):
        """Take or leave the row whose turn it is."""
        if value is True:
            self.chosen.append(self.shown[self.turn])
        self.turn += 1
        self.has_asked = False


def gather(machine, frame, table, c):
    """Find the rows of a table or view for which c is True, with their numbers."""
    info = machine.core.catalogue.table_or_view(table)
    machine.push(Gathering(frame, info, c, shown_rows(machine.core, info)))


class Each(Loop):
    """An each: the rows are found when it begins."""

    def __init__(self, frame, tree, place):
        Loop.__init__(self, frame, tree, place)
        self.chosen = None
        self.turn = 0

    def go_on(self, machine):
        _, _, word, table, c, _ = self.tree
        if not self.has_asked:
            self.has_asked = True
            gather(machine, self.frame, table, c)
            return
        if self.chosen is None:
            self.chosen = machine.value
        if self.turn == len(self.chosen):
            machine.finish(None)
            return
        begin_round(machine, self.frame, self.place)
        variable = self.frame.variable(word)
        variable.value = self.chosen[self.turn][1]
        self.turn += 1
        self.begin_statements(machine)


def begin_each(machine, frame, tree, place):
    """Begin an each."""
    machine.push(Each(frame, tree, place))


CONTROLS = {
    "block": begin_block,
    "if": begin_if,
    "while": begin_while,
    "each": begin_each,
}
