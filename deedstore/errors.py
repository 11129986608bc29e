"""The errors of the package. Each keeps, as attributes, the very objects that it is passed."""


class NoText(ValueError):
    """A text is not the text of a tree; index tells from where on."""

    def __init__(self, index):
        self.index = index


class BadThing(ValueError):
    """A thing of the catalogue has a wrong form or does not fit."""

    def __init__(self, reason, word):
        self.reason = reason
        self.word = word


class BadTree(ValueError):
    """The part of an expression or a statement at this path is wrong."""

    def __init__(self, path, word):
        self.path = path
        self.word = word


class BadDeed(ValueError):
    """The deed at this index of a history cannot be done."""

    def __init__(self, index):
        self.index = index


class BadArgs(ValueError):
    """The args of a call do not fit; word names the first param without a value."""

    def __init__(self, word):
        self.word = word


class Known(LookupError):
    """There is a thing with this word already."""

    def __init__(self, word):
        self.word = word


class Unknown(LookupError):
    """There is no thing with this word."""

    def __init__(self, word):
        self.word = word


class Used(LookupError):
    """This table or view names what is to be dropped."""

    def __init__(self, word):
        self.word = word


class NoMark(LookupError):
    """There is no mark k."""

    def __init__(self, k):
        self.k = k


class InTransaction(RuntimeError):
    """A transaction is there where none may be."""

    def __init__(self):
        RuntimeError.__init__(self)


class NoTransaction(RuntimeError):
    """No transaction is there where one is needed."""

    def __init__(self):
        RuntimeError.__init__(self)


class Busy(RuntimeError):
    """A stepper of the store has not ended."""

    def __init__(self):
        RuntimeError.__init__(self)


class NotEnded(RuntimeError):
    """A stepper that has not ended has no outcome."""

    def __init__(self):
        RuntimeError.__init__(self)


class Stale(RuntimeError):
    """A program has a fault against the present catalogue."""

    def __init__(self, word, place, fault):
        self.word = word
        self.place = place
        self.fault = fault


class Raised(RuntimeError):
    """A signal that leaves the package."""

    def __init__(self, word, details, program, place, stack, causes, history, trace):
        self.word = word
        self.details = details
        self.program = program
        self.place = place
        self.stack = stack
        self.causes = causes
        self.history = history
        self.trace = trace
