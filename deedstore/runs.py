"""Programs that run within one another, and the statements that come next in them."""

from deedstore.engine import Task
from deedstore.errors import Stale
from deedstore.frames import Cursor, Frame, Owner, Variable, Way
from deedstore.looks import first_fault
from deedstore.signals import Trouble


def staleness(catalogue, info):
    """The word, place and fault of this program if it is stale, otherwise None."""
    if info in catalogue.faultless:
        return None
    found = first_fault(catalogue, info.tree)
    if found is not None:
        return (info.word, *found)
    catalogue.faultless[info] = True
    return None


def raise_stale(found):
    """Raise that a program is stale; found are its word, place and fault."""
    word, place, fault = found
    raise Stale(word, place, fault)


def check_program(catalogue, info):
    """Stale if this program has a fault against the present catalogue."""
    found = staleness(catalogue, info)
    if found is not None:
        raise_stale(found)


def look_again(machine, frame):
    """Look at the program that runs if the catalogue has changed since it was looked at."""
    catalogue = machine.core.catalogue
    if frame.looked != catalogue.serial:
        check_program(catalogue, frame.info)
        frame.looked = catalogue.serial


def null_value(catalogue, kind):
    """What a variable of this kind has at first."""
    if not isinstance(kind, tuple):
        return None
    if kind[0] == "cursor":
        return Cursor(kind[1])
    return (None,) * len(catalogue.table_or_view(kind[1]).columns)


def begin_program(machine, info, scope):
    """Begin a procedure, function or trigger with the variables of its params."""
    machine.check_count()
    machine.check_depth()
    check_program(machine.core.catalogue, info)
    machine.begun += 1
    machine.within += 1
    machine.running.append(program_frame(machine, info, scope))
    frame = machine.running[-1]
    machine.core.tell(("enter", info.word))
    machine.push(ProgramRun(frame))


def program_frame(machine, info, scope):
    """The frame of a program that begins, as it was looked at just now."""
    frame = Frame(info, info.word)
    frame.scopes.append(scope)
    frame.looked = machine.core.catalogue.serial
    return frame


def begin_function(machine, word, args):
    """Begin the function with this word; args are the values of its params."""
    info = machine.core.catalogue.program_info(word, "function")
    begin_program(machine, info, scope_of_params(info.tree[2], args))


def begin_trigger(machine, info, old, new):
    """Begin a trigger with these rows."""
    kind = ("row", info.tree[2])
    begin_program(machine, info, {"old": Variable(kind, old), "new": Variable(kind, new)})


def scope_of_params(params, args):
    """The variables of params that have these args as values."""
    return {param[0]: Variable(param[1], arg) for param, arg in zip(params, args)}


class ProgramRun(Task):
    """A program that runs.

    It finds the value of a function, whether a trigger skips its change and the
    new row, of a procedure the list of the values that are given back.
    """

    def __init__(self, frame):
        self.frame = frame
        self.has_begun = False

    def go_on(self, machine):
        frame = self.frame
        if not self.has_begun:
            self.has_begun = True
            begin_statement(machine, frame, frame.info.tree[-1], ())
            return
        if frame.info.tree[0] == "function":
            frame.place = ()
            raise Trouble("noreturn", ())
        self.end(machine, "end", Way("end"))

    def leave(self, machine):
        way = machine.way
        if way.manner == "signal":
            free_marks(machine, self.frame)
            self.shut(machine)
            machine.tasks.pop()
            machine.running.pop()
            machine.within -= 1
            return
        machine.way = None
        self.end(machine, "return", way)

    def end(self, machine, name, way):
        """End the program without a signal."""
        free_marks(machine, self.frame)
        machine.core.tell(("leave", name))
        machine.finish(self.result_of(way))
        machine.running.pop()
        machine.within -= 1

    def result_of(self, way):
        """What the program has found when it ends this way."""
        tree = self.frame.info.tree
        scope = self.frame.scopes[0]
        if tree[0] == "function":
            return way.value
        if tree[0] == "trigger":
            return (way.manner == "skip", scope["new"].value)
        return [scope[word].value for word, _, passing in tree[2] if passing != "in"]

    def shut(self, machine):
        machine.core.tell(("leave", "signal"))


def begin_statement(machine, frame, tree, place):
    """Let this statement come next, if the program is not stale."""
    look_again(machine, frame)
    machine.push(Beginning(frame, tree, place))


class Beginning(Task):
    """A statement that comes next: while it is the topmost task, the machine stands before it."""

    def __init__(self, frame, tree, place):
        self.frame = frame
        self.tree = tree
        self.place = place

    def go_on(self, machine):
        frame = self.frame
        machine.tasks.pop()
        frame.place = self.place
        machine.core.tell(("at", self.place))
        starter = machine.starter
        starter(machine, frame, self.tree, self.place)


class Sequence(Task):
    """Statements that run one after the other; place leads to them."""

    def __init__(self, frame, statements, place):
        self.frame = frame
        self.statements = statements
        self.place = place
        self.turn = 0

    def go_on(self, machine):
        if self.turn == len(self.statements):
            machine.finish(None)
            return
        k = self.turn
        self.turn += 1
        begin_statement(machine, self.frame, self.statements[k], (*self.place, k))


def begin_round(machine, frame, place):
    """Begin a round of the loop at this place."""
    frame.place = place
    machine.check_count()
    look_again(machine, frame)
    machine.begun += 1
    machine.core.tell(("round",))


def own_marks(machine, frame, k):
    """Let the marks that are set from now on belong to a new part; k is a guard's mark."""
    frame.owners.append(Owner(k, machine.openings))


def free_marks(machine, frame):
    """Free the marks that belong to the innermost part of this program, which ends."""
    owner = frame.owners.pop()
    first = owner.first_mark()
    if first is not None:
        machine.core.free_mark(first)
