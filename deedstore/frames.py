"""What programs that run have: frames, variables, cursors, marks, and ways out."""

from deedstore.signals import Trouble


class Variable:
    """A variable of a program; the value of a cursor variable is a Cursor."""

    def __init__(self, kind, value):
        self.kind = kind
        self.value = value


class Cursor:
    """A cursor over a table or view.

    kept are the rows that it goes through, (number, row, version), or None if it
    is closed; fetched is the number of the row that was fetched last, or None.
    """

    def __init__(self, table):
        self.table = table
        self.kept = None
        self.upcoming = 0
        self.fetched = None
        # Of the rows that it goes through the versions by numbers.
        self.versions = {}
        # The versions that its changeat gave.
        self.given = {}
        # How many cursors had been opened when it was.
        self.opening = 0

    def note_given(self, version):
        """Note that its changeat gave a row this version."""
        self.given[version] = True

    def has_known(self, version):
        """Whether the row that was fetched last had this version, or its changeat gave it.

        None, for a row that is not there, is no version.
        """
        return version == self.versions[self.fetched] or version in self.given


class WordMark:
    """A mark that a program has set with a word."""

    def __init__(self, word, k, openings):
        self.word = word
        self.k = k
        self.openings = openings


class Owner:
    """What marks belong to: a program, a guarded part, a handler or a last that runs.

    k is the mark of a guard, None for the others; openings tells how many cursors
    had been opened when it was set.
    """

    def __init__(self, k, openings):
        self.k = k
        self.openings = openings
        self.word_marks = []

    def first_mark(self):
        """The first mark that belongs here, or None."""
        if self.k is not None or not self.word_marks:
            return self.k
        return self.word_marks[0].k

    def newest_mark(self, word):
        """The index of the newest mark with this word; signal "mark" if there is none."""
        for at in range(len(self.word_marks) - 1, -1, -1):
            if self.word_marks[at].word == word:
                return at
        raise Trouble("mark", (word,))


class Frame:
    """A program that runs, or with the word "" what runs outside of calls."""

    def __init__(self, info, word):
        self.info = info
        self.word = word
        self.place = ()
        # Variables by words: of the params, then of each block that is entered.
        self.scopes = []
        self.owners = [Owner(None, 0)]
        # The signals of the handlers that run, the innermost last.
        self.handling = []
        # The serial of the catalogue when the program was looked at.
        self.looked = None

    def variable(self, word):
        """The variable that this word means now: there is one, as the program has no fault."""
        at = len(self.scopes) - 1
        while word not in self.scopes[at]:
            at -= 1
        return self.scopes[at][word]

    def variable_kinds(self):
        """The kinds of all variables that are there, by words."""
        found = {}
        for scope in self.scopes:
            for word in scope:
                found[word] = scope[word].kind
        return found


class Way:
    """A way out of the statements that run.

    manner is "leave", "next", "return", "skip", "signal", or "end" for what
    nothing stops; label, value and signal are there for those that have one.
    """

    def __init__(self, manner):
        self.manner = manner
        self.label = None
        self.value = None
        self.signal = None
