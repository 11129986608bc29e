"""Calls of procedures."""

from deedstore.errors import BadArgs, Busy, NoTransaction, Unknown
from deedstore.runs import ProgramRun, check_program, program_frame, raise_stale, scope_of_params
from deedstore.signals import raise_signal
from deedstore.starts import new_machine
from deedstore.values import is_integer, is_value, is_word, value_kind


class Outcome:
    """What a call has done: its results, its history and its trace."""

    def __init__(self, results, history, trace):
        self.results = results
        self.history = history
        self.trace = trace


class Call:
    """A call that runs: its machine, the mark that it has set, and the deeds before it."""

    def __init__(self, machine, k, before, trace):
        self.machine = machine
        self.k = k
        self.before = before
        self.trace = trace
        # Its deeds, behind its end.
        self.history = ()


def run(store, procedure, *args, most=100000):
    """Call the procedure with this word; its Outcome."""
    info, values = asked_procedure(store, procedure, args, most)
    check_program(store.core.catalogue, info)
    call = begin_call(store.core, info, values, most)
    call.machine.run()
    end_call(call)
    return outcome_of(call)


def asked_procedure(store, procedure, args, most):
    """What is known of a procedure that is to be called, and the values of all its params."""
    core = store.core
    if core.standing:
        raise Busy()
    if not core.inside:
        raise NoTransaction()
    info = core.catalogue.program_info(procedure, "procedure") if is_word(procedure) else None
    if info is None:
        raise Unknown(procedure)
    values = _values_of_params(info.tree[2], args)
    if not is_integer(most) or most < 0:
        raise BadArgs("most")
    return info, values


def begin_call(core, info, values, most):
    """Begin a call of a procedure without fault, up to before its first statement."""
    machine = new_machine(core, most)
    frame = program_frame(machine, info, scope_of_params(info.tree[2], values))
    # No part of the stack of a signal stands for what is outside of the call.
    machine.running = [frame]
    machine.push(ProgramRun(frame))
    call = Call(machine, len(core.marks), len(core.deeds), [])
    core.told = call.trace
    core.tell(("enter", info.word))
    core.set_mark()
    return call


def _values_of_params(params, args):
    """The values of all params at the begin of a call; BadArgs if the args do not fit."""
    values = []
    waiting = list(reversed(args))
    for word, kind, way in params:
        if way == "out":
            values.append(None)
            continue
        if not waiting or not _is_of_kind(waiting[-1], kind):
            raise BadArgs(word)
        values.append(waiting.pop())
    if waiting:
        raise BadArgs(None)
    return values


def _is_of_kind(value, kind):
    """Whether this, any value, is a value of this kind of params."""
    if isinstance(kind, tuple) or not is_value(value):
        return False
    return value_kind(value) in (None, kind)


def end_call(call):
    """End a call of which nothing is left to be done: what has failed is taken back."""
    core = call.machine.core
    if call.machine.way is not None:
        core.undo_mark(call.k)
    core.free_mark(call.k)
    core.told = None
    call.history = tuple(core.deeds[call.before:])


def outcome_of(call):
    """The Outcome of a call that has ended; what has left it is raised."""
    machine = call.machine
    if machine.stale is not None:
        raise_stale(machine.stale)
    trace = tuple(call.trace)
    if machine.way is not None:
        raise_signal(machine.way.signal, call.history, trace)
    return Outcome(tuple(machine.value), call.history, trace)
