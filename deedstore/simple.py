"""Statements that evaluate some expressions and then do one thing."""

from deedstore.engine import Task
from deedstore.evaluations import evaluate
from deedstore.frames import Way, WordMark
from deedstore.kinds import Scope, fits_param, kind_at
from deedstore.references import check_references
from deedstore.runs import begin_program, scope_of_params
from deedstore.signals import Trouble


class Work(Task):
    """A statement that evaluates expressions in order, then does what it does with them."""

    def __init__(self, frame, tree, expressions):
        self.frame = frame
        self.tree = tree
        self.expressions = expressions
        self.parts = []
        self.has_asked = False

    def go_on(self, machine):
        if self.has_asked:
            self.parts.append(machine.value)
        while len(self.parts) < len(self.expressions):
            self.has_asked = True
            if not evaluate(machine, self.frame, self.expressions[len(self.parts)], {}, ()):
                return
            self.parts.append(machine.value)
        machine.tasks.pop()
        action = ACTIONS[self.tree[0]]
        action(machine, self.frame, self.tree, self.parts)


def begin_work(machine, frame, tree, place):
    """Begin a statement of ACTIONS."""
    machine.push(Work(frame, tree, _expressions(machine, tree)))


def _expressions(machine, tree):
    """The expressions that are evaluated for a statement."""
    head = tree[0]
    if head in ("set", "new"):
        return [tree[2]]
    if head == "return":
        return [] if tree[1] is None else [tree[1]]
    if head == "raise":
        return tree[2]
    if head == "doby":
        return [tree[1], *tree[2]]
    if head == "do":
        return tree[2]
    return []


def _set(machine, frame, tree, values):
    variable = frame.variable(tree[1])
    variable.value = values[0]


def _go(machine, frame, tree, values):
    """Leave or next."""
    way = Way(tree[0])
    way.label = tree[1]
    machine.way = way


def _return(machine, frame, tree, values):
    way = Way("return")
    way.value = values[0] if values else None
    machine.way = way


def _skip(machine, frame, tree, values):
    machine.way = Way("skip")


def _raise(machine, frame, tree, values):
    raise Trouble(tree[1], tuple(values))


def _again(machine, frame, tree, values):
    machine.raise_again(frame.handling[-1])


def _new(machine, frame, tree, values):
    """Set a column of the new row of a trigger."""
    # An inner variable may hide the row, which is a param of the trigger.
    variable = frame.scopes[0]["new"]
    info = machine.core.catalogue.table_or_view(frame.info.tree[2])
    at = info.places[tree[1]]
    variable.value = (*variable.value[:at], values[0], *variable.value[at + 1:])


def _mark(machine, frame, tree, values):
    k = machine.core.set_mark()
    owner = frame.owners[-1]
    owner.word_marks.append(WordMark(tree[1], k, machine.openings))


def _back(machine, frame, tree, values):
    owner = frame.owners[-1]
    at = owner.newest_mark(tree[1])
    mark = owner.word_marks[at]
    machine.core.undo_mark(mark.k)
    del owner.word_marks[at + 1:]
    machine.close_since(mark.openings)


def _free(machine, frame, tree, values):
    owner = frame.owners[-1]
    at = owner.newest_mark(tree[1])
    machine.core.free_mark(owner.word_marks[at].k)
    del owner.word_marks[at:]


def _look(machine, frame, tree, values):
    check_references(machine.core, True)


def _make(machine, frame, tree, values):
    _check_free(machine)
    program = tree[1]
    if program[1] in machine.core.catalogue.infos:
        raise Trouble("known", (program[1],))
    machine.core.make_things((("program", program),))


def _check_free(machine):
    """Signal "busy" if a statement on rows is running."""
    if machine.statements > 0:
        raise Trouble("busy", ())


def _drop(machine, frame, tree, values):
    _check_free(machine)
    if machine.core.catalogue.of_kind(tree[1], "program") is None:
        raise Trouble("unknown", (tree[1],))
    machine.core.drop_things((tree[1],))


class GivingBack(Task):
    """Gives the values of out and both params to the args, when the procedure has ended."""

    def __init__(self, frame, variables):
        self.frame = frame
        self.variables = variables

    def go_on(self, machine):
        for e, value in zip(self.variables, machine.value):
            variable = self.frame.variable(e[1])
            variable.value = value
        machine.finish(None)


def _do(machine, frame, tree, values):
    info = machine.core.catalogue.program_info(tree[1], "procedure")
    _begin_procedure(machine, frame, info, tree[2], values)


def _begin_procedure(machine, frame, info, args, values):
    """Run a procedure with these args, which have these values."""
    params = info.tree[2]
    passed = [None if param[2] == "out" else value for param, value in zip(params, values)]
    back = [arg for arg, param in zip(args, params) if param[2] != "in"]
    machine.push(GivingBack(frame, back))
    begin_program(machine, info, scope_of_params(params, passed))


def _doby(machine, frame, tree, values):
    catalogue = machine.core.catalogue
    info = catalogue.program_info(values[0], "procedure")
    if info is None or not _all_fit(catalogue, frame, tree[2], info.tree[2]):
        raise Trouble("noproc", ())
    _begin_procedure(machine, frame, info, tree[2], values[1:])


def _all_fit(catalogue, frame, args, params):
    """Whether args of these kinds can be passed for these params."""
    if len(args) != len(params):
        return False
    scope = Scope({}, frame.variable_kinds(), catalogue)
    scope.in_program = True
    scope.in_handler = True
    kinds = [kind_at((), arg, scope) for arg in args]
    return all([fits_param(arg, kind, param) for arg, kind, param in zip(args, kinds, params)])


ACTIONS = {
    "set": _set,
    "leave": _go,
    "next": _go,
    "return": _return,
    "skip": _skip,
    "raise": _raise,
    "again": _again,
    "new": _new,
    "mark": _mark,
    "back": _back,
    "free": _free,
    "look": _look,
    "make": _make,
    "drop": _drop,
    "do": _do,
    "doby": _doby,
}
