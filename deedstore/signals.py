"""Signals: what goes wrong while a statement or a program runs."""

from deedstore.errors import Raised


class Trouble(Exception):
    """Something goes wrong: a signal with this word and these details comes up."""

    def __init__(self, word, details):
        self.word = word
        self.details = details


class Signal:
    """A signal that has come up; because is the signal that is its cause, or None."""

    def __init__(self, word, details, program, place, stack, because):
        self.word = word
        self.details = details
        self.program = program
        self.place = place
        self.stack = stack
        self.because = because


def raise_signal(signal, history, trace):
    """Let a signal leave the package."""
    causes = []
    cause = signal.because
    while cause is not None:
        causes.append((cause.word, cause.details, cause.program, cause.place))
        cause = cause.because
    raise Raised(
        signal.word, signal.details, signal.program, signal.place, signal.stack, tuple(causes),
        history, trace,
    )


def raise_outside(word, details):
    """Let a signal leave the package that came up outside of calls."""
    raise_signal(Signal(word, details, "", (), (), None), (), ())
