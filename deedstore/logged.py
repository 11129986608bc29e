"""Stores with a log, from which they are recovered, and with times."""

from deedstore.cores import Core
from deedstore.errors import InTransaction, Unknown
from deedstore.logs import Recovery, Scribe, checkpoint_deeds, recover
from deedstore.stores import Store, check_not_busy
from deedstore.times import Times, core_behind
from deedstore.values import is_integer, is_word


class LoggedStore(Store):
    """A store that writes a log."""

    def __init__(self):
        Store.__init__(self)
        core = self.core
        core.scribe = Scribe()

    @classmethod
    def recovered(cls, text):
        """The store that has this text as its log, as far as it is whole and right."""
        store = cls()
        recover(store.core, text)
        return store

    @staticmethod
    def joined(old, new):
        """The new log if its first commit is whole and right, otherwise the old one."""
        recovery = Recovery(Core())
        recovery.read(new)
        return old if recovery.last is None else new

    @property
    def log(self):
        """The text of the log."""
        return "".join(self.core.scribe.lines)

    def checkpoint(self):
        """Write a new log, which makes what the store has now, and return it."""
        core = self.core
        check_not_busy(core)
        if core.inside:
            raise InTransaction()
        core.scribe.begin_anew(core)
        if core.times is not None:
            core.times.begin_anew(core, checkpoint_deeds(core))
        return self.log


class TimedStore(Store):
    """A store that remembers what it was behind each commit."""

    def __init__(self):
        Store.__init__(self)
        core = self.core
        core.times = Times()

    def behind(self, n):
        """A plain store as this one was behind the n-th commit."""
        if not is_integer(n) or n not in self.core.times.moments:
            raise Unknown(n)
        store = Store()
        store.core = core_behind(self.core, n)
        return store

    def cause(self, table, number, column):
        """The commit and the index of the deed that gave a column of a row its value, last.

        None if the present transaction gave it.
        """
        core = self.core
        info = core.catalogue.of_kind(table, "table") if is_word(table) else None
        if info is None:
            raise Unknown(table)
        if not is_integer(number) or number not in core.held[table]:
            raise Unknown(number)
        if not is_word(column) or column not in info.places:
            raise Unknown(column)
        return core.times.present_causes(core, number)[info.places[column]]


class LoggedTimedStore(LoggedStore, TimedStore):
    """A store with a log and with times."""

    def __init__(self):
        LoggedStore.__init__(self)
        core = self.core
        core.times = Times()
