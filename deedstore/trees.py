"""Trees, their bounds and their texts."""

from deedstore.errors import NoText
from deedstore.values import is_plain

MOST_PARTS = 2000
MOST_DEEP = 30
MOST_DIGITS = 100

# The lines of a log hold deeds that hold trees, so they may be deeper than trees.
LINE_DEEP = 40

# Longer integers are written in pieces of so many digits.
PIECE_DIGITS = 64
PIECE = 10 ** 64


def is_bounded(tree):
    """Whether tree has no more parts and is no deeper than a tree may."""
    # By levels, so that what is beyond the bounds is given up at once, however large it is.
    level = [tree]
    many = 1
    for _ in range(MOST_DEEP):
        tuples = [part for part in level if isinstance(part, tuple)]
        many += sum([len(part) for part in tuples])
        if many > MOST_PARTS:
            return False
        level = [inner for part in tuples for inner in part]
        if not level:
            return True
    return False


def write_tree(tree):
    """The text of a tree."""
    pieces = []
    # What is to be written, the next one last: a tree and False, or a ready text and True.
    waiting = [(tree, False)]
    while waiting:
        part, ready = waiting.pop()
        if ready:
            pieces.append(part)
        elif isinstance(part, tuple):
            pieces.append("(")
            waiting.append((")", True))
            for k in range(len(part) - 1, -1, -1):
                waiting.append((part[k], False))
                if k > 0:
                    waiting.append((" ", True))
        else:
            pieces.append(_leaf_text(part))
    return "".join(pieces)


def _leaf_text(leaf):
    """The text of a tree that is no tuple."""
    if leaf is None:
        return "-"
    if leaf is True:
        return "yes"
    if leaf is False:
        return "no"
    if isinstance(leaf, str):
        escaped = leaf.replace("\\", "\\\\").replace('"', '\\"')
        return '"' + escaped + '"'
    return _digits(leaf)


def _digits(n):
    """The integer n in decimal digits."""
    # Python's own str refuses integers of some thousand digits.
    pieces = []
    rest = abs(n)
    while rest >= PIECE:
        rest, low = divmod(rest, PIECE)
        pieces.append(str(low).zfill(PIECE_DIGITS))
    pieces.append(str(rest))
    if n < 0:
        pieces.append("-")
    return "".join(reversed(pieces))


def read_tree(text):
    """The tree with this text; NoText for all that is no text of a tree."""
    if not isinstance(text, str):
        raise NoText(0)
    return Reader(text, MOST_PARTS, MOST_DEEP).whole()


def read_line(text):
    """The tree with this text, the line of a log; NoText for all that is none."""
    # No text has more parts than characters.
    return Reader(text, len(text) + 1, LINE_DEEP).whole()


class Reader:
    """Reads the text of one tree, from left to right.

    It goes on only while some tree's text begins with what it has read, so
    the index at which it has to stop is the index of NoText.
    """

    def __init__(self, text, most_parts, most_deep):
        self.text = text
        self.most_parts = most_parts
        self.most_deep = most_deep
        self.at = 0
        self.many = 0
        # The parts so far of each tuple whose end is still to come, the innermost last.
        self.unclosed = []
        self.result = None

    def whole(self):
        """The tree whose text this is from the begin to the end."""
        self.begin_part()
        while self.unclosed:
            self.go_on()
        if self.at < len(self.text):
            raise NoText(self.at)
        return self.result

    def begin_part(self):
        """Read a part that is no tuple, or the bracket with which a tuple begins."""
        if self.many == self.most_parts or len(self.unclosed) == self.most_deep:
            raise NoText(self.at)
        self.many += 1
        sign = self.following()
        if sign == "(":
            self.at += 1
            self.unclosed.append([])
        elif sign == '"':
            self.end_part(self.read_string())
        elif sign == "y":
            self.spell("yes")
            self.end_part(True)
        elif sign == "n":
            self.spell("no")
            self.end_part(False)
        elif sign == "-" or "0" <= sign <= "9":
            self.end_part(self.read_number())
        else:
            raise NoText(self.at)

    def go_on(self):
        """Read the end of the innermost tuple, or the begin of its next part."""
        parts = self.unclosed[-1]
        if self.following() == ")":
            self.at += 1
            self.unclosed.pop()
            self.end_part(tuple(parts))
            return
        if parts:
            # Behind a space a part must come, so the space is wrong if there may be none.
            if self.many == self.most_parts:
                raise NoText(self.at)
            self.spell(" ")
        self.begin_part()

    def end_part(self, part):
        """Put a part that has been read where it belongs."""
        if self.unclosed:
            self.unclosed[-1].append(part)
        else:
            self.result = part

    def following(self):
        """The next character, or the empty string at the end."""
        return self.text[self.at:self.at + 1]

    def spell(self, signs):
        """Read these characters and no others."""
        for sign in signs:
            if self.following() != sign:
                raise NoText(self.at)
            self.at += 1

    def read_number(self):
        """An integer, or None for a minus sign without one.

        It ends where no digit may follow; a digit that follows all the same is
        wrong for whatever reads on.
        """
        begin = self.at
        if self.following() == "-":
            self.at += 1
            if not "1" <= self.following() <= "9":
                return None
        elif self.following() == "0":
            self.at += 1
            return 0
        end = self.at + MOST_DIGITS
        while self.at < end and "0" <= self.following() <= "9":
            self.at += 1
        return int(self.text[begin:self.at])

    def read_string(self):
        """The string whose first double quote comes next."""
        self.at += 1
        pieces = []
        while self.following() != '"':
            sign = self.following()
            if sign == "\\":
                self.at += 1
                sign = self.following()
                if sign != '"' and sign != "\\":
                    raise NoText(self.at)
            elif not is_plain(sign):
                raise NoText(self.at)
            pieces.append(sign)
            self.at += 1
        self.at += 1
        return "".join(pieces)
