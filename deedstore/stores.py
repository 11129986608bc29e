"""Stores of tables, with their statements, transactions, marks and things."""

from deedstore.asked import check_condition, check_sets
from deedstore.changing import begin_order
from deedstore.cores import Core
from deedstore.errors import Busy, InTransaction, NoTransaction, Raised, Unknown
from deedstore.evaluations import shown_rows
from deedstore.fits import check_drop, check_make, check_sequence
from deedstore.orders import change_order, fill_order, put_order, take_order
from deedstore.references import check_references
from deedstore.runs import raise_stale
from deedstore.signals import Trouble, raise_outside, raise_signal
from deedstore.starts import new_machine
from deedstore.trees import write_tree
from deedstore.values import is_integer, is_word


class Store:
    """A store: tables with their rows, sequences, views and programs."""

    # How many rounds and programs a statement outside of calls may begin.
    MOST = 100000

    def __init__(self):
        self.core = Core()

    @classmethod
    def of(cls, *things):
        """A store with these things, pairs of a kind ("sequence", too) and a thing."""
        store = cls()
        others = []
        for pair in things:
            if _is_sequence_pair(pair):
                store.add_sequence(pair[1])
            else:
                others.append(pair)
        store.begin()
        store.make(*others)
        store.commit()
        return store

    def __eq__(self, other):
        if not isinstance(other, Store):
            return False
        return _have_same_things(self.core, other.core) and self.core.held == other.core.held

    @property
    def tables(self):
        """The words of the tables, in order."""
        return tuple(self.core.catalogue.words("table"))

    @property
    def sequences(self):
        """The words of the sequences, in order."""
        return tuple(self.core.catalogue.words("sequence"))

    @property
    def views(self):
        """The words of the views, in order."""
        return tuple(self.core.catalogue.words("view"))

    @property
    def programs(self):
        """The words of the programs, in order."""
        return tuple(self.core.catalogue.words("program"))

    @property
    def journal(self):
        """The deeds of the present transaction."""
        return tuple(self.core.deeds)

    @property
    def commits(self):
        """The number of the last commit, 0 if there is none."""
        return self.core.last_commit

    def thing(self, word):
        """The table, sequence, view or program with this word."""
        if not is_word(word) or word not in self.core.catalogue.infos:
            raise Unknown(word)
        return self.core.catalogue.infos[word].tree

    def row(self, table, number):
        """The row of a table with this number, or None."""
        if not is_word(table) or not is_integer(number) or table not in self.core.held:
            return None
        return self.core.held[table].get(number)

    def rows(self, word):
        """The rows of a table or view, in order, each as (number, row)."""
        for number, row in _shown(self.core, word):
            yield (number, row)

    def copy(self):
        """A plain store with all that this one has now."""
        other = Store()
        other.core = self.core.copied()
        return other

    def begin(self):
        """Begin a transaction."""
        _check_outside(self.core)
        self.core.begin_transaction()

    def commit(self):
        """End the transaction and keep what it has done, if all references hold."""
        _check_inside(self.core)
        try:
            _look(self.core)
        except Raised:
            self.core.drop_all()
            raise
        self.core.keep_all(self.core.last_commit + 1)

    def rollback(self):
        """End the transaction and take back what it has done."""
        _check_inside(self.core)
        self.core.drop_all()

    def look(self):
        """Signal "refer" for the first reference, late or not, that does not hold."""
        _check_inside(self.core)
        _look(self.core)

    def make(self, *things):
        """Make these things, pairs of a kind and a thing, together."""
        _check_inside(self.core)
        check_make(self.core.catalogue, things)
        if things:
            self.core.make_things(things)

    def drop(self, *words):
        """Drop the things with these words together."""
        _check_inside(self.core)
        check_drop(self.core.catalogue, words)
        if words:
            self.core.drop_things(words)

    def add_sequence(self, thing):
        """Add a sequence, for good."""
        _check_outside(self.core)
        check_sequence(self.core.catalogue, thing)
        self.core.add_sequence(thing)

    def number(self, sequence):
        """The next number of a sequence, which is not given again."""
        _check_inside(self.core)
        _check_sequence_word(self.core, sequence)
        try:
            return self.core.give_number(sequence)
        except Trouble as trouble:
            raise_outside(trouble.word, trouble.details)

    def following(self, sequence):
        """What the next number of a sequence would be."""
        _check_sequence_word(self.core, sequence)
        return self.core.upcoming[sequence]

    def put(self, table, sets):
        """Put a row; the number of rows that were put."""
        _check_inside(self.core)
        info = _info(self.core, table)
        check_sets(self.core.catalogue, info, {}, sets)
        return _run_order(self, put_order, info, sets)

    def fill(self, table, sets, source, c):
        """Put a row for each row of source for which c is True; how many were put."""
        _check_inside(self.core)
        info = _info(self.core, table)
        source_info = _info(self.core, source)
        check_sets(self.core.catalogue, info, source_info.kinds, sets)
        check_condition(self.core.catalogue, source_info.kinds, c)
        return _run_order(self, fill_order, info, sets, source_info, c)

    def change(self, table, sets, c):
        """Change the rows for which c is True; how many were changed."""
        _check_inside(self.core)
        info = _info(self.core, table)
        check_sets(self.core.catalogue, info, info.kinds, sets)
        check_condition(self.core.catalogue, info.kinds, c)
        return _run_order(self, change_order, info, sets, c)

    def take(self, table, c):
        """Take the rows for which c is True; how many were taken."""
        _check_inside(self.core)
        info = _info(self.core, table)
        check_condition(self.core.catalogue, info.kinds, c)
        return _run_order(self, take_order, info, c)

    def mark(self):
        """Set a mark; its number."""
        _check_inside(self.core)
        return self.core.set_mark()

    def undo(self, k):
        """Take back all changes behind mark k."""
        _check_inside(self.core)
        self.core.check_mark(k)
        self.core.undo_mark(k)

    def free(self, k):
        """Drop mark k and later ones."""
        _check_inside(self.core)
        self.core.check_mark(k)
        self.core.free_mark(k)


def _run_order(store, make_order, *parts):
    """Run the statement that has these parts; its result."""
    machine = new_machine(store.core, store.MOST)
    order = make_order(store.core, machine.running[0], *parts)
    begin_order(machine, order)
    machine.run()
    if machine.stale is not None:
        raise_stale(machine.stale)
    if machine.way is not None:
        raise_signal(machine.way.signal, (), ())
    return machine.value


def _is_sequence_pair(pair):
    return isinstance(pair, tuple) and len(pair) == 2 and pair[0] == "sequence"


def _have_same_things(core, other):
    """Whether two stores have the same things."""
    infos, others = core.catalogue.infos, other.catalogue.infos
    if sorted(infos) != sorted(others):
        return False
    # By their texts, as True is no integer, though Python holds it equal to 1.
    return all([write_tree(infos[word].tree) == write_tree(others[word].tree) for word in infos])


def _shown(core, word):
    """The rows that the table or view with this word shows, with their numbers."""
    info = _info(core, word)
    try:
        return shown_rows(core, info)
    except Trouble as trouble:
        raise_outside(trouble.word, trouble.details)


def _look(core):
    """Signal "refer" for the first reference that does not hold."""
    try:
        check_references(core, True)
    except Trouble as trouble:
        raise_outside(trouble.word, trouble.details)


def _info(core, word):
    """What is known of the table or view with this word, any value."""
    info = core.catalogue.table_or_view(word) if is_word(word) else None
    if info is None:
        raise Unknown(word)
    return info


def _check_sequence_word(core, word):
    if not is_word(word) or not core.catalogue.has_sequence(word):
        raise Unknown(word)


def check_not_busy(core):
    """Busy while a stepper stands."""
    if core.standing:
        raise Busy()


def _check_inside(core):
    check_not_busy(core)
    if not core.inside:
        raise NoTransaction()


def _check_outside(core):
    check_not_busy(core)
    if core.inside:
        raise InTransaction()
