"""The log of a store: its lines, and the store that is recovered from them."""

from deedstore.deeds import can_do, do_deed
from deedstore.errors import NoText
from deedstore.forms import is_sequence
from deedstore.trees import read_line, write_tree
from deedstore.values import is_integer, is_value, is_word

# How many numbers of a sequence one lot has, and the modulus of the sums of commits.
LOT = 8
MODULUS = 1000000007


class Scribe:
    """Writes the log of a store."""

    def __init__(self):
        self.lines = []
        # The last numbers of the last lots of sequences.
        self.lots = {}

    def write_sequence(self, thing):
        """Write that a sequence is added."""
        self.lines.append(line_of(("sequence", thing)))

    def write_lot(self, word, given, step):
        """Write a lot, if the number that is to be given lies behind the last one."""
        if word in self.lots and given != self.lots[word] + step:
            return
        last = given
        for _ in range(LOT - 1):
            if is_value(last + step):
                last += step
        self.lots[word] = last
        self.lines.append(line_of(("lot", word, last)))

    def write_commit(self, n, deeds):
        """Write a commit with these deeds."""
        self.lines.append(commit_text(n, deeds))

    def begin_anew(self, core):
        """Write a checkpoint instead of all that is written."""
        words = core.catalogue.words("sequence")
        self.lines = [line_of(("sequence", core.catalogue.infos[word].tree)) for word in words]
        for word in words:
            if word in self.lots:
                self.lines.append(line_of(("lot", word, self.lots[word])))
        self.write_commit(core.last_commit, checkpoint_deeds(core))


def line_of(tree):
    """The line with this tree."""
    return write_tree(tree) + "\n"


def commit_text(n, deeds):
    """The lines of a commit."""
    text = line_of(("begin", n)) + "".join([line_of(deed) for deed in deeds])
    return text + line_of(("commit", n, checksum(text)))


def checksum(text):
    """The sum of the lines of a commit but the last one."""
    total = 0
    for place, sign in enumerate(text, start=1):
        total += ord(sign) * place
    return total % MODULUS


def checkpoint_deeds(core):
    """The deeds that make all that a store has out of the empty store."""
    catalogue = core.catalogue
    pairs = []
    for kind in ("table", "view", "program"):
        pairs.extend([(kind, catalogue.infos[word].tree) for word in catalogue.words(kind)])
    deeds = [("make", tuple(pairs))] if pairs else []
    for table in catalogue.words("table"):
        deeds.extend([("put", table, which, row) for which, row in core.numbered_rows(table)])
    return tuple(deeds)


class Recovery:
    """Reads a log into a state that is empty at first."""

    def __init__(self, core):
        self.core = core
        # The lines that count, and those of the commit that is being read.
        self.counted = []
        self.unsure = []
        self.lots = {}
        # The number of the commit that is being read, and of the last one that counts.
        self.present = None
        self.last = None
        # The next number of a row without those of the commit that is being read.
        self.next_number = 0

    def read(self, text):
        """Read up to the first line that is cut or wrong."""
        lines = text.split("\n")
        # What stands behind the last newline is no whole line.
        for line in lines[:-1]:
            if not self.takes(line):
                break
        if self.present is not None:
            core = self.core
            core.drop_all()
            core.next_number = self.next_number

    def takes(self, line):
        """Take a line: whether it is right where it stands."""
        try:
            tree = read_line(line)
        except NoText:
            return False
        if not isinstance(tree, tuple) or not tree:
            return False
        if self.present is None:
            is_right = self.takes_between(tree)
        else:
            is_right = self.takes_within(tree)
        if is_right:
            self.unsure.append(line + "\n")
        if self.present is None:
            self.counted.extend(self.unsure)
            self.unsure = []
        return is_right

    def takes_between(self, tree):
        """Take a line that belongs to no commit, or begins one."""
        if tree[0] == "begin":
            return self.begins_commit(tree)
        if tree[0] == "sequence" and len(tree) == 2:
            thing = tree[1]
            if not is_sequence(thing) or thing[0] in self.core.catalogue.infos:
                return False
            self.core.add_sequence(thing)
            return True
        if tree[0] != "lot" or len(tree) != 3:
            return False
        _, word, last = tree
        if not is_word(word) or not self.core.catalogue.has_sequence(word):
            return False
        if not is_integer(last) or not is_value(last):
            return False
        self.lots[word] = last
        self.core.upcoming[word] = last + self.core.catalogue.infos[word].tree[2]
        return True

    def begins_commit(self, tree):
        """Begin a commit, if its number follows that of the last one."""
        if len(tree) != 2 or not is_integer(tree[1]) or tree[1] < 0:
            return False
        if self.last is not None and tree[1] != self.last + 1:
            return False
        self.present = tree[1]
        self.next_number = self.core.next_number
        self.core.begin_transaction()
        return True

    def takes_within(self, tree):
        """Take a line of a commit: a deed, or its end."""
        if tree[0] == "commit":
            if not self.is_right_end(tree):
                return False
            self.core.keep_all(self.present)
            self.last = self.present
            self.present = None
            return True
        if not can_do(self.core, tree):
            return False
        do_deed(self.core, tree)
        return True

    def is_right_end(self, tree):
        """Whether this ends the present commit with the right number and sum."""
        if len(tree) != 3 or not is_integer(tree[1]) or not is_integer(tree[2]):
            return False
        return tree[1] == self.present and tree[2] == checksum("".join(self.unsure))


def recover(core, text):
    """Let this state, a new one with a log, be the one of which text is the log."""
    scribe = core.scribe
    # What is read is written already.
    core.scribe = None
    recovery = Recovery(core)
    recovery.read(text)
    scribe.lines = list(recovery.counted)
    scribe.lots = dict(recovery.lots)
    core.scribe = scribe
