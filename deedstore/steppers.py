"""Calls that are made statement by statement."""

from deedstore.errors import NotEnded
from deedstore.frames import Way
from deedstore.machines import asked_procedure, begin_call, end_call, outcome_of
from deedstore.runs import Beginning, raise_stale, staleness


class Stepper:
    """A call that stands before its next statement, until it has ended.

    at tells the program and the place of that statement, and is None at the end.
    """

    def __init__(self, store, procedure, *args, most=100000):
        core = store.core
        info, values = asked_procedure(store, procedure, args, most)
        self.at = None
        self.core = core
        self.call = None
        self.is_given_up = False
        self.stale = staleness(core.catalogue, info)
        if self.stale is None:
            core.standing = True
            self.call = begin_call(core, info, values, most)
            self.go_on()

    @property
    def frames(self):
        """The programs that run, the outermost first: (program, place, variables) of each."""
        if self.at is None:
            return ()
        running = self.call.machine.running
        found = [(frame.word, frame.place, _values_of(frame)) for frame in running[:-1]]
        return (*found, (*self.at, _values_of(running[-1])))

    def into(self):
        """Run until the next statement begins; what at is then."""
        if self.at is not None:
            self.go_on()
        return self.at

    def over(self):
        """Run until the next statement of this frame or an outer one; what at is then."""
        return self.go_on_within(0)

    def out(self):
        """Run until the next statement of an outer frame; what at is then."""
        return self.go_on_within(1)

    def until(self, program, place):
        """Run until this statement comes next, at least one further; what at is then."""
        self.into()
        while self.at is not None and self.at != (program, place):
            self.go_on()
        return self.at

    def outcome(self):
        """The Outcome of the call, or what it raises."""
        if self.stale is not None:
            raise_stale(self.stale)
        if self.at is not None or self.is_given_up:
            raise NotEnded()
        return outcome_of(self.call)

    def give_up(self):
        """End the call as a signal that leaves it would, without last parts."""
        if self.at is None:
            return
        machine = self.call.machine
        self.is_given_up = True
        machine.way = Way("end")
        machine.run()
        self.end()

    def go_on_within(self, left_out):
        """Run until a statement comes next in a frame that runs now, but in the last left_out."""
        if self.at is None:
            return None
        running = self.call.machine.running
        # The very frames: the same program may run again as deep as now.
        wanted = running[:len(running) - left_out]
        self.go_on()
        while self.at is not None and self.call.machine.running[-1] not in wanted:
            self.go_on()
        return self.at

    def go_on(self):
        """Run until the next statement comes, or until the end."""
        machine = self.call.machine
        machine.step()
        while machine.tasks and not isinstance(machine.tasks[-1], Beginning):
            machine.step()
        if machine.tasks:
            self.at = (machine.running[-1].word, machine.tasks[-1].place)
        else:
            self.end()

    def end(self):
        """End the call, of which nothing is left to be done."""
        core = self.core
        self.at = None
        end_call(self.call)
        core.standing = False


def _values_of(frame):
    """The values of the variables of a frame: of its params, then of each block that is open."""
    return tuple([_values_in(scope) for scope in frame.scopes])


def _values_in(scope):
    return {word: _value_of(scope[word]) for word in scope}


def _value_of(variable):
    """The value of a variable; of a cursor whether it is open."""
    if variable.kind[0] == "cursor":
        return variable.value.kept is not None
    return variable.value
