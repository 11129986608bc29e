"""The machine that runs statements and programs, task by task.

What runs is a stack of tasks instead of Python calls, so that programs may run
within one another as deep as they may, and be stopped before any statement.
"""

from deedstore.errors import Stale
from deedstore.frames import Frame, Way
from deedstore.signals import Signal, Trouble

MOST_WITHIN = 8


class Task:
    """Something that runs.

    The machine lets the topmost task go on (each class below has a go_on) until
    it is finished or has put another one above itself. Where a way leads out,
    tasks are left.
    """

    def leave(self, machine):
        """End the task by the way that leads out, or stop that way here."""
        machine.tasks.pop()

    def shut(self, machine):
        """End the task by a way that nothing stops."""
        return


class Machine:
    """What runs for one statement of a store, or for one call."""

    def __init__(self, core, most, starter):
        self.core = core
        # How many rounds and programs may begin, and how many have begun.
        self.most = most
        self.begun = 0
        # Begins the statement that comes next.
        self.starter = starter
        self.tasks = []
        self.running = [Frame(None, "")]
        # How many programs and cascades run within one another.
        self.within = 0
        # How many statements on rows run within one another.
        self.statements = 0
        # What the last task that was finished has found.
        self.value = None
        self.way = None
        # The signals that are being handled, the innermost last.
        self.handled = []
        # The open cursors, and how many have been opened.
        self.cursors = []
        self.openings = 0
        # The word, place and fault of the program that was found stale.
        self.stale = None

    def push(self, task):
        """Let this task run first."""
        self.tasks.append(task)

    def finish(self, value):
        """End the topmost task with what it has found."""
        self.tasks.pop()
        self.value = value

    def run(self):
        """Run until nothing is left to be done."""
        while self.tasks:
            self.step()

    def step(self):
        """Let the topmost task go on, or be left."""
        task = self.tasks[-1]
        try:
            if self.way is None:
                task.go_on(self)
            elif self.way.manner == "end":
                self.shut_all()
            else:
                task.leave(self)
        except Trouble as trouble:
            self.come_up(trouble.word, trouble.details)
        except Stale as stale:
            self.stale = (stale.word, stale.place, stale.fault)
            self.way = Way("end")

    def come_up(self, word, details):
        """Let a signal come up in the statement that runs."""
        frame = self.running[-1]
        # Outside of calls the bottom frame is what calls; a call has none of these.
        stack = tuple([(other.word, other.place) for other in self.running[:-1]])
        because = self.handled[-1] if self.handled else None
        signal = Signal(word, details, frame.word, frame.place, stack, because)
        self.raise_again(signal)

    def raise_again(self, signal):
        """Let this signal go outward from the statement that runs."""
        self.core.tell(("raise", signal.word))
        way = Way("end" if signal.word == "long" else "signal")
        way.signal = signal
        self.way = way

    def shut_all(self):
        """End all tasks, the topmost first."""
        while self.tasks:
            task = self.tasks.pop()
            task.shut(self)

    def check_count(self):
        """Signal "long" if no further round or program may begin."""
        if self.begun >= self.most:
            raise Trouble("long", ())

    def check_depth(self):
        """Signal "depth" if no further program or cascade may run within these."""
        if self.within >= MOST_WITHIN:
            raise Trouble("depth", ())

    def close_cursor(self, cursor):
        """Close a cursor that is open."""
        cursor.kept = None
        self.cursors.remove(cursor)

    def close_since(self, openings):
        """Close the cursors that were opened since so many had been."""
        for cursor in list(self.cursors):
            if cursor.opening > openings:
                self.close_cursor(cursor)
