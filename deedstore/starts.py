"""The begin of every statement of a program, and the machines that run them."""

from deedstore.controls import CONTROLS
from deedstore.engine import Machine
from deedstore.rowsteps import ROW_STEPS
from deedstore.simple import begin_work


def start_statement(machine, frame, tree, place):
    """Begin this statement of a program."""
    head = tree[0]
    if head in CONTROLS:
        start = CONTROLS[head]
    elif head in ROW_STEPS:
        start = ROW_STEPS[head]
    else:
        start = begin_work
    start(machine, frame, tree, place)


def new_machine(core, most):
    """A machine for a statement or a call, in which so many rounds and programs may begin."""
    return Machine(core, most, start_statement)
