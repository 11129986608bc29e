"""A plain reading of points 44 to 51: it runs programs by Python's own calls and errors.

It knows no triggers, functions and cascades; statements on rows it leaves to the store.
"""

from deedstore.errors import Raised
from tests.build import equal


class Came(Exception):
    """A signal has come up."""

    def __init__(self, word, details, program, place, stack, cause):
        self.word, self.details, self.program, self.place = word, details, program, place
        self.stack, self.cause = stack, cause


class Jump(Exception):
    """A leave or next of this label."""

    def __init__(self, head, label):
        self.head, self.label = head, label


class Return(Exception):
    pass


class Cursor:
    def __init__(self):
        self.kept = None
        self.given = set()
        self.opened = 0
        self.at = 0
        self.fetched = None


class Owner:
    """What marks belong to; each mark is (word, k, time)."""

    def __init__(self, k=None):
        self.k = k
        self.marks = []


class Frame:
    def __init__(self, word):
        self.word = word
        self.scopes = []
        self.owners = [Owner()]
        self.signals = []
        self.place = ()


class Plain:
    """Runs procedures over a table t whose column no tells its rows apart."""

    # The frames before each statement, if they are to be noted.
    noted = None

    def __init__(self, store):
        self.store = store
        self.trace = []
        self.frames = []
        self.handled = []
        self.time = 0
        self.cursors = []
        self.seen = len(store.journal)
        self.versions = {n: ("first", n) for n, _ in store.rows("t")}
        self.saved = {}

    def call(self, word):
        """How a call ends: its results or its signal, and the trace without deeds."""
        self.trace.append(("enter", word))
        self.mark()
        k = self.last_mark
        tree = self.store.thing(word)
        try:
            results = self.program(tree, [None for _ in tree[2]])
        except Came as came:
            self.undo(k)
            self.free(k)
            causes = []
            cause = came.cause
            while cause is not None:
                causes.append((cause.word, cause.details, cause.program, cause.place))
                cause = cause.cause
            return (came.word, came.details, came.program, came.place, came.stack, tuple(causes)), self.trace
        self.free(k)
        return results, self.trace

    # Marks, with the versions of rows.

    def mark(self):
        self.look_at_deeds()
        self.last_mark = self.store.mark()
        self.saved[self.last_mark] = dict(self.versions)

    def undo(self, k):
        self.look_at_deeds()
        self.store.undo(k)
        self.versions = dict(self.saved[k])

    def free(self, k):
        self.look_at_deeds()
        self.store.free(k)

    def look_at_deeds(self):
        """Give the rows that were put or changed new versions."""
        for k in range(self.seen, len(self.store.journal)):
            deed = self.store.journal[k]
            if deed[0] in ("put", "change") and deed[1] == "t":
                self.versions[deed[2]] = k
            elif deed[0] == "take" and deed[1] == "t":
                self.versions.pop(deed[2])
        self.seen = len(self.store.journal)

    # Programs.

    def program(self, tree, args):
        frame = Frame(tree[1])
        frame.scopes.append({param[0]: arg for param, arg in zip(tree[2], args)})
        self.frames.append(frame)
        way = "end"
        try:
            self.statement(tree[-1], ())
        except Return:
            way = "return"
        except Came:
            self.end_owner(frame)
            self.trace.append(("leave", "signal"))
            self.frames.pop()
            raise
        self.end_owner(frame)
        self.trace.append(("leave", way))
        self.frames.pop()
        return tuple(frame.scopes[0][word] for word, _, passing in tree[2] if passing != "in")

    def end_owner(self, frame):
        owner = frame.owners.pop()
        if owner.k is not None:
            self.free(owner.k)
        elif owner.marks:
            self.free(owner.marks[0][1])

    def come(self, word, details=()):
        frame = self.frames[-1]
        self.trace.append(("raise", word))
        stack = tuple((other.word, other.place) for other in self.frames[:-1])
        raise Came(word, details, frame.word, frame.place, stack, self.handled[-1] if self.handled else None)

    def scope_of(self, word):
        return next(scope for scope in reversed(self.frames[-1].scopes) if word in scope)

    def all_frames(self):
        """The frames with the values of their variables, as point 53 tells them."""
        return tuple((frame.word, frame.place, tuple(map(self.shown_values, frame.scopes))) for frame in self.frames)

    def shown_values(self, scope):
        return {word: x.kept is not None if isinstance(x, Cursor) else x for word, x in scope.items()}

    def statements(self, statements, place):
        for k, statement in enumerate(statements):
            self.statement(statement, (*place, k))

    def statement(self, tree, place):
        self.frames[-1].place = place
        if self.noted is not None:
            self.noted.append(self.all_frames())
        self.trace.append(("at", place))
        getattr(self, "do_" + tree[0])(tree, place)

    def value(self, e, row=None):
        head = e[0]
        if head == "value":
            return e[1]
        if head == "var":
            return self.scope_of(e[1])[e[1]]
        if head == "col":
            return row["no a b".split().index(e[1])]
        if head == "field":
            return self.scope_of(e[1])[e[1]]["no a b".split().index(e[2])]
        if head == "word":
            return self.frames[-1].signals[-1].word
        if head == "told":
            details = self.frames[-1].signals[-1].details
            found = details[e[1]] if e[1] < len(details) else None
            return found if {int: "int", str: "text", bool: "truth"}.get(type(found)) == e[2] else None
        if head == "count":
            return sum(self.value(e[2], other) is True for _, other in self.store.rows(e[1]))
        return self.operation(e, row)

    def operation(self, e, row):
        _, o, left, right = e
        a, b = self.value(left, row), self.value(right, row)
        if a is None or b is None:
            return None
        if o == "div" and b == 0:
            self.come("division")
        return {"+": lambda: a + b, "-": lambda: a - b, "<": lambda: a < b, "=": lambda: a == b, "div": lambda: a // b}[o]()

    def filled(self, e):
        """The expression with the values of variables instead of their words."""
        if e[0] in ("var", "field", "told", "word"):
            return ("value", self.value(e))
        return tuple(self.filled(part) if isinstance(part, tuple) and part else part for part in e)

    # Statements.

    def null(self, kind):
        return Cursor() if kind[0] == "cursor" else (None,) * 3 if kind[0] == "row" else None

    def do_block(self, tree, place):
        frame = self.frames[-1]
        _, label, variables, statements, handlers, last = tree
        scope = {word: self.null(kind) for word, kind, _ in variables}
        frame.scopes.append(scope)
        going = self.way_out(lambda: self.guarded(variables, statements, handlers, place, scope))
        if last:
            other = self.way_out(lambda: self.last(last, (*place, 1 + len(handlers)), place, going))
            going = other or going
        for cursor in scope.values():
            if isinstance(cursor, Cursor) and cursor in self.cursors:
                self.close(cursor)
        frame.scopes.pop()
        if going is not None and not (isinstance(going, Jump) and (going.head, going.label) == ("leave", label)):
            raise going

    def way_out(self, action):
        """The signal or jump by which the action is left, or None."""
        try:
            action()
        except (Came, Jump, Return) as way:
            return way
        return None

    def guarded(self, variables, statements, handlers, place, scope):
        frame = self.frames[-1]
        time = self.time
        if handlers:
            self.mark()
            frame.owners.append(Owner(self.last_mark))
        going = self.way_out(lambda: self.unguarded(variables, statements, place, scope))
        chosen = [k for k, (words, _) in enumerate(handlers) if isinstance(going, Came) and (not words or going.word in words)]
        if chosen:
            k = frame.owners.pop().k
            self.undo(k)
            self.free(k)
            self.close_since(time)
            self.trace.append(("catch", place, chosen[0]))
            frame.owners.append(Owner())
            frame.signals.append(going)
            self.handled.append(going)
            going = self.way_out(lambda: self.statements(handlers[chosen[0]][1], (*place, 1 + chosen[0])))
            self.handled.pop()
            frame.signals.pop()
        if handlers:
            self.end_owner(frame)
        if going is not None:
            raise going

    def unguarded(self, variables, statements, place, scope):
        for word, _, e in variables:
            if e is not None:
                scope[word] = self.value(e)
        self.statements(statements, (*place, 0))

    def last(self, statements, place, of, going):
        frame = self.frames[-1]
        self.trace.append(("last", of))
        frame.owners.append(Owner())
        if isinstance(going, Came):
            self.handled.append(going)
        other = self.way_out(lambda: self.statements(statements, place))
        if isinstance(going, Came):
            self.handled.pop()
        self.end_owner(frame)
        if other is not None:
            raise other

    def do_set(self, tree, place):
        value = self.value(tree[2])
        self.scope_of(tree[1])[tree[1]] = value

    def do_if(self, tree, place):
        for k, (c, statements) in enumerate(tree[1]):
            if self.value(c) is True:
                self.statements(statements, (*place, k))
                return
        self.statements(tree[2], (*place, len(tree[1])))

    def round(self, label, statements, place):
        """A round; whether further ones come."""
        self.trace.append(("round",))
        try:
            self.statements(statements, (*place, 0))
        except Jump as jump:
            if jump.label != label:
                raise
            return jump.head == "next"
        return True

    def do_while(self, tree, place):
        more = True
        while more:
            self.frames[-1].place = place
            more = self.value(tree[2]) is True and self.round(tree[1], tree[3], place)

    def chosen(self, table, c):
        return [(n, row) for n, row in self.store.rows(table) if self.value(c, row) is True]

    def do_each(self, tree, place):
        for _, row in self.chosen(tree[3], tree[4]):
            self.frames[-1].place = place
            self.scope_of(tree[2])[tree[2]] = row
            if not self.round(tree[1], tree[5], place):
                return

    def do_leave(self, tree, place):
        raise Jump(*tree)

    do_next = do_leave

    def do_return(self, tree, place):
        raise Return

    def rows(self, action, *parts, into=None):
        try:
            many = action(*parts)
        except Raised as raised:
            self.failed(raised.word, raised.details)
        if into is not None:
            self.scope_of(into)[into] = many
        return many

    def failed(self, word, details):
        try:
            self.come(word, details)
        finally:
            self.trace.append(("fail",))

    def do_put(self, tree, place):
        self.rows(self.store.put, tree[1], self.filled(tree[2]), into=tree[3])

    def do_change(self, tree, place):
        self.rows(self.store.change, tree[1], self.filled(tree[2]), self.filled(tree[3]), into=tree[4])

    def do_take(self, tree, place):
        self.rows(self.store.take, tree[1], self.filled(tree[2]), into=tree[3])

    def do_get(self, tree, place):
        found = self.chosen(tree[2], tree[3])
        if len(found) != 1:
            self.come("manyrows" if found else "norow")
        self.scope_of(tree[1])[tree[1]] = found[0][1]

    def close(self, cursor):
        cursor.kept = None
        self.cursors.remove(cursor)

    def close_since(self, time):
        for cursor in list(self.cursors):
            if cursor.opened > time:
                self.close(cursor)

    def do_open(self, tree, place):
        cursor = self.value(("var", tree[1]))
        if cursor.kept is not None:
            self.close(cursor)
        found = self.chosen(tree[2], tree[3])
        self.look_at_deeds()
        self.time += 1
        cursor.kept = [(n, row, self.versions[n]) for n, row in found]
        cursor.opened, cursor.at, cursor.fetched = self.time, 0, None
        self.cursors.append(cursor)

    def do_fetch(self, tree, place):
        cursor = self.value(("var", tree[1]))
        if cursor.kept is None:
            self.come("cursor", (tree[1],))
        cursor.fetched = None
        self.scope_of(tree[3])[tree[3]] = cursor.at < len(cursor.kept)
        if cursor.at < len(cursor.kept):
            cursor.fetched = cursor.kept[cursor.at]
            self.scope_of(tree[2])[tree[2]] = cursor.fetched[1]
            cursor.at += 1

    def do_close(self, tree, place):
        cursor = self.value(("var", tree[1]))
        if cursor.kept is None:
            self.come("cursor", (tree[1],))
        self.close(cursor)

    def fetched(self, word):
        self.look_at_deeds()
        cursor = self.value(("var", word))
        if cursor.kept is None or cursor.fetched is None:
            self.failed("cursor", (word,))
        n, row, version = cursor.fetched
        if n not in self.versions or self.versions[n] != version and self.versions[n] not in cursor.given:
            self.failed("gone", ("t",))
        return cursor, equal(("col", "no"), row[0])

    def do_changeat(self, tree, place):
        cursor, c = self.fetched(tree[1])
        self.rows(self.store.change, "t", self.filled(tree[2]), c)
        self.look_at_deeds()
        cursor.given.add(self.versions[cursor.fetched[0]])

    def do_takeat(self, tree, place):
        cursor, c = self.fetched(tree[1])
        self.rows(self.store.take, "t", c)
        cursor.fetched = None

    def do_mark(self, tree, place):
        self.mark()
        self.frames[-1].owners[-1].marks.append((tree[1], self.last_mark, self.time))

    def newest(self, word):
        marks = self.frames[-1].owners[-1].marks
        found = [k for k, mark in enumerate(marks) if mark[0] == word]
        if not found:
            self.come("mark", (word,))
        return marks, found[-1]

    def do_back(self, tree, place):
        marks, at = self.newest(tree[1])
        self.undo(marks[at][1])
        self.close_since(marks[at][2])
        del marks[at + 1:]

    def do_free(self, tree, place):
        marks, at = self.newest(tree[1])
        self.free(marks[at][1])
        del marks[at:]

    def do_look(self, tree, place):
        try:
            self.store.look()
        except Raised as raised:
            self.come(raised.word, raised.details)

    def do_raise(self, tree, place):
        self.come(tree[1], tuple(self.value(e) for e in tree[2]))

    def do_again(self, tree, place):
        came = self.frames[-1].signals[-1]
        self.trace.append(("raise", came.word))
        raise came

    def do_do(self, tree, place):
        procedure = self.store.thing(tree[1])
        args = [None if param[2] == "out" else self.value(arg) for param, arg in zip(procedure[2], tree[2])]
        self.trace.append(("enter", tree[1]))
        given = self.program(procedure, args)
        words = [arg[1] for param, arg in zip(procedure[2], tree[2]) if param[2] != "in"]
        for word, value in zip(words, given):
            self.scope_of(word)[word] = value
