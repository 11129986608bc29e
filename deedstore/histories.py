"""Histories: tuples of deeds, and the stores that they make."""

from deedstore.deeds import can_do, do_deed, straight_deeds
from deedstore.errors import BadDeed
from deedstore.stores import Store
from deedstore.values import is_integer, is_value, is_word


class Replay:
    """The deeds of a history, which are done one after the other."""

    def __init__(self, core):
        self.core = core
        # The number of the first mark of the history.
        self.first = None

    def takes(self, deed):
        """Do this deed, any value, if it can be done; whether it could."""
        if _is_of_form(deed, "mark", 2):
            return self.takes_mark(deed[1])
        if _is_of_form(deed, "undo", 2):
            return self.takes_undo(deed[1])
        if _is_of_form(deed, "free", 2):
            return self.takes_free(deed[1])
        if _is_of_form(deed, "number", 3):
            return self.takes_number(deed[1], deed[2])
        if not can_do(self.core, deed):
            return False
        do_deed(self.core, deed)
        return True

    def takes_mark(self, k):
        """Set mark k, if it is the next one; the first one may have any number from 0 on."""
        if not is_integer(k) or k < 0:
            return False
        if self.first is None:
            self.first = k
        if k != self.first + len(self.core.marks):
            return False
        self.core.set_mark()
        return True

    def takes_undo(self, k):
        """Take back all behind mark k, if it is there."""
        if not self.has_mark(k):
            return False
        self.core.undo_mark(k - self.first)
        return True

    def takes_free(self, k):
        """Drop mark k and later ones, if it is there."""
        if not self.has_mark(k):
            return False
        self.core.free_mark(k - self.first)
        return True

    def has_mark(self, k):
        """Whether k, any value, is a mark of the history that is there."""
        if not is_integer(k) or self.first is None:
            return False
        return self.first <= k < self.first + len(self.core.marks)

    def takes_number(self, word, given):
        """Give the next number of a sequence, if it is this one."""
        core = self.core
        if not is_word(word) or not core.catalogue.has_sequence(word):
            return False
        if not is_integer(given) or not is_value(given) or given != core.upcoming[word]:
            return False
        core.give_number(word)
        return True


def _is_of_form(deed, head, many):
    """Whether deed, any value, has so many parts and begins with this word."""
    return isinstance(deed, tuple) and len(deed) == many and deed[0] == head


def replayed(store, history):
    """The store that the deeds of a history make out of this one; BadDeed with the first wrong one."""
    core = store.core.copied()
    # What the present transaction has done stays, and marks are those of the history alone.
    core.end_transaction()
    replay = Replay(core)
    for index, deed in enumerate(history):
        if not replay.takes(deed):
            raise BadDeed(index)
    core.end_transaction()
    found = Store()
    found.core = core
    return found


def is_history(store, history, after):
    """Whether this, any value, is a history that is right from a store to another one."""
    if not isinstance(history, tuple):
        return False
    try:
        found = replayed(store, history)
    except BadDeed:
        return False
    return found == after


def straight(history):
    """The straight form of a right history: the deeds that no undo took back, and all numbers."""
    return straight_deeds(history)
