"""Builders of trees, and what the tests of stores and programs have in common."""

import unittest

from deedstore.errors import Raised
from deedstore.machines import run
from deedstore.stores import Store

NULL = ("value", None)
TRUE = ("value", True)
FALSE = ("value", False)


def value(v):
    return ("value", v)


def var(word):
    return ("var", word)


def col(word):
    return ("col", word)


def op(o, a, b):
    """An operation; parts that are no expressions stand for values."""
    return ("op", o, made_value(a), made_value(b))


def made_value(x):
    return x if isinstance(x, tuple) else ("value", x)


def equal(a, b):
    return op("=", a, b)


def plus(a, b):
    return op("+", a, b)


def sets(**given):
    return tuple((column, made_value(e)) for column, e in given.items())


def column(word, kind="int", may=True, default=NULL):
    return (word, kind, may, made_value(default))


def table(word, *columns, keys=(), checks=(), references=()):
    made = tuple(column(c) if isinstance(c, str) else c for c in columns)
    return (word, made, tuple(keys), tuple(checks), tuple(references))


def view(word, under, columns, c=TRUE, whole=False):
    """A view; columns are words that it has with the same words, or pairs."""
    pairs = tuple((c, c) if isinstance(c, str) else c for c in columns)
    return (word, under, pairs, c, whole)


def block(*statements, label=None, variables=(), handlers=(), last=()):
    return ("block", label, tuple(variables), tuple(statements), tuple(handlers), tuple(last))


def variable(word, kind="int", e=None):
    return (word, kind, e if e is None else made_value(e))


def procedure(word, *statements, params=(), **parts):
    return ("procedure", word, tuple(params), block(*statements, **parts))


def function(word, *statements, params=(), kind="int", **parts):
    return ("function", word, tuple(params), kind, block(*statements, **parts))


def trigger(word, on, when, event, *statements, **parts):
    return ("trigger", word, on, when, event, block(*statements, **parts))


def handler(words, *statements):
    return (tuple(words.split()), tuple(statements))


def set_(word, e):
    return ("set", word, made_value(e))


def put(on, into=None, **given):
    return ("put", on, sets(**given), into)


def raise_(word, *es):
    return ("raise", word, tuple(made_value(e) for e in es))


def do(word, *args):
    return ("do", word, tuple(made_value(e) for e in args))


def tables(*given):
    return tuple(("table", t) for t in given)


def programs(*given):
    return tuple(("program", p) for p in given)


class StoreTest(unittest.TestCase):
    """Has helpers for what stores and calls do."""

    def fails(self, error, fields, action, *args, **more):
        """The action raises this error with exactly these fields."""
        with self.assertRaises(error) as caught:
            action(*args, **more)
        self.assertIs(type(caught.exception), error)
        self.assertEqual(tuple(vars(caught.exception).values()), fields)

    def signals(self, word, details, action, *args, **more):
        """The action raises a signal outside of calls."""
        self.fails(Raised, (word, details, "", (), (), (), (), ()), action, *args, **more)

    def raised(self, action, *args, **more):
        """The Raised that the action raises."""
        with self.assertRaises(Raised) as caught:
            action(*args, **more)
        return caught.exception

    def has_rows(self, store, word, *rows):
        """The table or view has exactly these rows, whatever their numbers are."""
        self.assertEqual([row for _, row in store.rows(word)], list(rows))

    def trace_of(self, store, word, *args, **more):
        """The trace of a call without deeds, entries of one part as their words."""
        try:
            trace = run(store, word, *args, **more).trace
        except Raised as e:
            trace = e.trace
        return [entry[0] if len(entry) == 1 else entry for entry in trace if entry[0] != "deed"]


def begun(*things):
    """A store with these things, in a transaction."""
    store = Store.of(*things)
    store.begin()
    return store


def unchanged(store):
    """All that a store tells of itself, to be compared."""
    words = store.tables + store.sequences + store.views + store.programs
    return (
        [store.thing(word) for word in words],
        [(word, list(store.rows(word))) for word in store.tables],
        store.journal, store.commits, [store.following(word) for word in store.sequences],
    )
