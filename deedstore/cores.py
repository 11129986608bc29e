"""What a store has: its things and rows, the journal of its transaction, its marks."""

from deedstore.catalogues import Catalogue, SequenceInfo
from deedstore.deeds import straight_deeds, without_numbers
from deedstore.errors import NoMark
from deedstore.signals import Trouble
from deedstore.values import is_integer, is_value


class Point:
    """A point in a transaction to which one can go back."""

    def __init__(self, deeds, marks, backlog):
        self.deeds = deeds
        self.marks = marks
        self.backlog = backlog


class Core:
    """The state of a store, and the changes that can be made to it.

    Nothing is checked here but what only the state can tell.
    """

    def __init__(self):
        self.catalogue = Catalogue()
        # Of each table its rows by their numbers.
        self.held = {}
        # Of each row, by its number, the version.
        self.versions = {}
        # Of each sequence the number that it gives next.
        self.upcoming = {}
        self.next_number = 0
        self.next_version = 0
        self.last_commit = 0
        self.inside = False
        self.deeds = []
        # Of each mark the length of the backlog when it was set.
        self.marks = []
        # What is to be done, the last one first, to take all back.
        self.backlog = []
        # Whether a stepper stands before its next statement.
        self.standing = False
        # The trace of the call that runs, its log and its times: None if there is none.
        self.told = None
        self.scribe = None
        self.times = None

    def copied(self):
        """The same state, without log and times."""
        other = Core()
        other.catalogue = self.catalogue.copied()
        other.held = {table: dict(self.held[table]) for table in self.held}
        other.versions = dict(self.versions)
        other.upcoming = dict(self.upcoming)
        other.next_number = self.next_number
        other.next_version = self.next_version
        other.last_commit = self.last_commit
        other.inside = self.inside
        other.deeds = list(self.deeds)
        other.marks = list(self.marks)
        other.backlog = list(self.backlog)
        return other

    def numbered_rows(self, table):
        """The rows of a table with their numbers, in order."""
        held = self.held[table]
        return [(which, held[which]) for which in sorted(held)]

    def tell(self, entry):
        """Write this into the trace of the call that runs."""
        if self.told is not None:
            self.told.append(entry)

    def record(self, deed):
        """Write a deed into the journal."""
        self.deeds.append(deed)
        self.tell(("deed", deed))

    def put_row(self, table, row):
        """Put a row under the next number."""
        self.put_at(table, self.next_number, row)

    def put_at(self, table, which, row):
        """Put a row under a number that no row has."""
        if which >= self.next_number:
            self.next_number = which + 1
        self.write_row(table, which, row)
        self.record(("put", table, which, row))

    def change_row(self, table, which, row):
        """Give a row these values."""
        self.write_row(table, which, row)
        self.record(("change", table, which, row))

    def take_row(self, table, which):
        """Take a row."""
        self.note_row(table, which)
        del self.held[table][which]
        del self.versions[which]
        self.record(("take", table, which))

    def write_row(self, table, which, row):
        """Let a row with a new version stand under this number."""
        self.note_row(table, which)
        self.held[table][which] = row
        self.versions[which] = self.next_version
        self.next_version += 1

    def note_row(self, table, which):
        """Note what stands under this number, so that it can be taken back."""
        row = self.held[table].get(which)
        self.backlog.append(("row", table, which, row, self.versions.get(which)))

    def make_things(self, pairs):
        """Make things, pairs of a kind and a thing, that can be made together."""
        infos = self.catalogue.made(pairs)
        self.add_things(infos)
        self.backlog.append(("made", infos))
        self.record(("make", tuple(pairs)))

    def add_things(self, infos):
        """Let these things be there, tables without rows."""
        self.catalogue.add_infos(infos)
        for info in infos:
            if info.thing_kind == "table":
                self.held[info.word] = {}

    def drop_things(self, words):
        """Drop things that can be dropped together, the rows of tables first."""
        infos = [self.catalogue.infos[word] for word in words]
        for info in infos:
            if info.thing_kind == "table":
                for which in sorted(self.held[info.word]):
                    self.take_row(info.word, which)
        self.remove_things(infos)
        self.backlog.append(("dropped", infos))
        self.record(("drop", tuple(words)))

    def remove_things(self, infos):
        """Let these things, tables without rows, be there no more."""
        self.catalogue.remove_infos(infos)
        for info in infos:
            if info.thing_kind == "table":
                del self.held[info.word]

    def add_sequence(self, thing):
        """Add a sequence with a word that is not there."""
        self.catalogue.add_infos([SequenceInfo(thing)])
        self.upcoming[thing[0]] = thing[1]
        if self.scribe is not None:
            self.scribe.write_sequence(thing)

    def give_number(self, word):
        """The next number of a sequence."""
        given = self.upcoming[word]
        if not is_value(given):
            raise Trouble("range", ())
        step = self.catalogue.infos[word].tree[2]
        if self.scribe is not None:
            # What is written down first can be given no second time, wherever the log is cut.
            self.scribe.write_lot(word, given, step)
        self.upcoming[word] = given + step
        self.record(("number", word, given))
        return given

    def set_mark(self):
        """Set a mark and return its number."""
        k = len(self.marks)
        self.marks.append(len(self.backlog))
        self.record(("mark", k))
        return k

    def check_mark(self, k):
        """NoMark if k, any value, is no mark that is there."""
        if not is_integer(k) or not 0 <= k < len(self.marks):
            raise NoMark(k)

    def undo_mark(self, k):
        """Take back all changes behind mark k."""
        self.take_back(self.marks[k])
        del self.marks[k + 1:]
        self.record(("undo", k))

    def free_mark(self, k):
        """Drop mark k and later ones."""
        del self.marks[k:]
        self.record(("free", k))

    def point(self):
        """The present point in the transaction."""
        return Point(len(self.deeds), len(self.marks), len(self.backlog))

    def go_back(self, point):
        """Take all back since a point; of the deeds only those of numbers stay."""
        self.take_back(point.backlog)
        numbers = [deed for deed in self.deeds[point.deeds:] if deed[0] == "number"]
        self.deeds[point.deeds:] = numbers
        del self.marks[point.marks:]

    def take_back(self, many):
        """Take back all changes but the first of this number."""
        while len(self.backlog) > many:
            entry = self.backlog.pop()
            if entry[0] == "row":
                self.restore_row(entry)
            elif entry[0] == "made":
                self.remove_things(entry[1])
            else:
                self.add_things(entry[1])

    def restore_row(self, entry):
        """Let a row be as it was when it was noted."""
        _, table, which, row, version = entry
        if row is None:
            del self.held[table][which]
            del self.versions[which]
        else:
            self.held[table][which] = row
            self.versions[which] = version

    def begin_transaction(self):
        """Begin a transaction."""
        self.inside = True

    def end_transaction(self):
        """End the transaction, what it has done being kept or taken back already."""
        self.inside = False
        self.deeds = []
        self.marks = []
        self.backlog = []

    def keep_all(self, n):
        """End the transaction as the n-th commit."""
        deeds = without_numbers(straight_deeds(self.deeds))
        self.end_transaction()
        self.last_commit = n
        if self.scribe is not None:
            self.scribe.write_commit(n, deeds)
        if self.times is not None:
            self.times.note_commit(self, n, deeds)

    def drop_all(self):
        """End the transaction and take back all that it has done."""
        self.take_back(0)
        self.end_transaction()
