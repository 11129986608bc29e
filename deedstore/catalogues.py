"""The catalogue of a store: its tables, sequences, views and programs, by words."""

from deedstore.kinds import FORMS

OVER_ROWS = ("count", "sum", "least", "most")


class Reference:
    """A reference of a table; places are those of its columns in the rows."""

    def __init__(self, tree, places):
        self.word, columns, self.table, self.act, self.late = tree
        self.places = tuple([places[column] for column in columns])


class TableInfo:
    """What is known of a table.

    What it shares with ViewInfo: base is the word of the table that has the
    rows, base_columns its columns behind the own ones, layers the views that
    lie over it, the innermost first, and fixed the values that these give.
    """

    def __init__(self, tree):
        self.thing_kind = "table"
        self.tree = tree
        self.word = tree[0]
        self.columns = tuple([column[0] for column in tree[1]])
        self.kinds = {column[0]: column[1] for column in tree[1]}
        self.places = {column: at for at, column in enumerate(self.columns)}
        self.base = self.word
        self.base_columns = {column: column for column in self.columns}
        self.layers = ()
        self.fixed = {}
        self.may_be_null = tuple([column[2] for column in tree[1]])
        self.defaults = tuple([column[3] for column in tree[1]])
        self.key_places = tuple([tuple([self.places[column] for column in key]) for key in tree[2]])
        self.checks = tree[3]
        self.references = tuple([Reference(part, self.places) for part in tree[4]])


class Layer:
    """The condition of a view, over the columns of the table that has the rows."""

    def __init__(self, word, c, whole):
        self.word = word
        self.c = c
        self.is_whole = whole


class ViewInfo:
    """What is known of a view over the table or view below, or of its rows."""

    def __init__(self, tree, below):
        self.thing_kind = "view"
        self.tree = tree
        self.word = tree[0]
        self.columns = tuple([word for word, _ in tree[2]])
        self.kinds = {word: below.kinds[column] for word, column in tree[2]}
        self.places = {column: at for at, column in enumerate(self.columns)}
        self.base = below.base
        self.base_columns = {word: below.base_columns[column] for word, column in tree[2]}
        layer = Layer(self.word, renamed(tree[3], below.base_columns), tree[4])
        self.layers = (*below.layers, layer)
        # Of two values for one column that of the innermost view counts.
        self.fixed = {**_fixed_by(layer.c), **below.fixed}


class SequenceInfo:
    """What is known of a sequence."""

    def __init__(self, tree):
        self.thing_kind = "sequence"
        self.tree = tree
        self.word = tree[0]


class ProgramInfo:
    """What is known of a program."""

    def __init__(self, tree):
        self.thing_kind = "program"
        self.tree = tree
        self.word = tree[1]


def renamed(e, names):
    """The expression e with other names of its columns; names tells them by the old ones."""
    if e[0] == "col":
        return ("col", names[e[1]])
    if e[0] in OVER_ROWS:
        # The columns in it are those of another table.
        return e
    if e[0] == "call":
        return ("call", e[1], tuple([renamed(arg, names) for arg in e[2]]))
    parts = [e[0]]
    for part, letter in zip(e[1:], FORMS[e[0]]):
        parts.append(renamed(part, names) if letter == "e" else part)
    return tuple(parts)


def _fixed_by(c):
    """The values of columns that a condition of a view fixes."""
    if c[0] != "op":
        return {}
    _, o, a, b = c
    if o == "and":
        # The first part that fixes a column counts.
        return {**_fixed_by(b), **_fixed_by(a)}
    if o == "=" and a[0] == "col" and b[0] == "value" and b[1] is not None:
        return {a[1]: b[1]}
    return {}


class Catalogue:
    """All things of a store, without rows."""

    def __init__(self):
        self.infos = {}
        # It grows with each change, so it tells whether something has changed since.
        self.serial = 0
        # The programs that have been found without fault against the present things.
        self.faultless = {}

    def copied(self):
        """A catalogue with the same things."""
        other = Catalogue()
        other.infos = dict(self.infos)
        other.serial = self.serial
        return other

    def words(self, kind):
        """The words of the things of a kind, in order."""
        return sorted([word for word in self.infos if self.infos[word].thing_kind == kind])

    def of_kind(self, word, kind):
        """What is known of the thing with this word if it is of this kind, otherwise None."""
        found = self.infos.get(word)
        return found if found is not None and found.thing_kind == kind else None

    def table_or_view(self, word):
        """What is known of a table or view, None if there is none with this word."""
        found = self.of_kind(word, "table")
        return self.of_kind(word, "view") if found is None else found

    def has_sequence(self, word):
        """Whether there is a sequence with this word."""
        return self.of_kind(word, "sequence") is not None

    def program_info(self, word, head):
        """What is known of a procedure, function or trigger, None if there is none."""
        found = self.of_kind(word, "program")
        return found if found is not None and found.tree[0] == head else None

    def triggers(self, table, when, event):
        """The triggers of a table for an event, by words."""
        programs = [self.infos[word] for word in self.words("program")]
        wanted = ("trigger", table, when, event)
        return [info for info in programs if (info.tree[0], *info.tree[2:-1]) == wanted]

    def references_to(self, table):
        """All references to a table, with what is known of the tables that have them."""
        tables = [self.infos[word] for word in self.words("table")]
        return [(info, part) for info in tables for part in info.references if part.table == table]

    def made(self, pairs):
        """What is to be known of new things, pairs of a kind and a thing that fit."""
        found = {tree[0]: TableInfo(tree) for kind, tree in pairs if kind == "table"}
        waiting = [tree for kind, tree in pairs if kind == "view"]
        while waiting:
            later = []
            for tree in waiting:
                below = found.get(tree[1], self.infos.get(tree[1]))
                if below is None:
                    later.append(tree)
                else:
                    found[tree[0]] = ViewInfo(tree, below)
            waiting = later
        for kind, tree in pairs:
            if kind == "program":
                found[tree[1]] = ProgramInfo(tree)
        return list(found.values())

    def add_infos(self, infos):
        """Add things that are not there."""
        for info in infos:
            self.infos[info.word] = info
        self.note_change()

    def remove_infos(self, infos):
        """Remove things that are there."""
        for info in infos:
            del self.infos[info.word]
        self.note_change()

    def note_change(self):
        """Forget what held of the things before."""
        self.serial += 1
        self.faultless = {}
