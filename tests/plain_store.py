"""A plain reading of points 13, 21 to 27, 30, 44 and 55, beside that of plain.py: a store of its own.

It does all that a call does by Python's own calls and errors, with rows that it copies
whole for each mark and each statement.
"""

from tests.plain import Came, Frame, Plain, Return
from tests.plain_faults import Looked


class Stop(Exception):
    """Nothing handles this: a signal "long", or a program that is stale."""

    def __init__(self, came=None, stale=None):
        self.came, self.stale = came, stale


class Skip(Exception):
    pass


class Whole(Plain):
    """A store without rows and marks, in which calls are made."""

    def __init__(self, store, most):
        self.trees = {word: store.thing(word) for word in store.tables + store.views + store.sequences}
        self.tables, self.views, self.sequences = store.tables, store.views, store.sequences
        self.made = {word: store.thing(word) for word in store.programs}
        self.next = {word: store.following(word) for word in store.sequences}
        self.held = {}
        self.next_number = self.next_version = 0
        self.journal = []
        self.marks = []
        self.most = most
        self.looked = {}
        self.waiting = None

    # The things, as Looked asks for them.

    @property
    def programs(self):
        return tuple(self.made)

    def thing(self, word):
        return self.made[word] if word in self.made else self.trees[word]

    def columns(self, word):
        if word in self.tables:
            return [part[0] for part in self.trees[word][1]]
        return [pair[0] for pair in self.trees[word][2]]

    # Deeds and marks.

    def deed(self, *deed):
        self.journal.append(deed)
        self.trace.append(("deed", deed))

    def state(self):
        return dict(self.held), dict(self.made)

    def mark(self):
        self.last_mark = len(self.marks)
        self.marks.append(self.state())
        self.deed("mark", self.last_mark)

    def undo(self, k):
        self.held, self.made = map(dict, self.marks[k])
        del self.marks[k + 1:]
        self.deed("undo", k)

    def free(self, k):
        del self.marks[k:]
        self.deed("free", k)

    def number(self, word):
        found = self.next[word]
        self.next[word] += self.trees[word][2]
        self.deed("number", word, found)
        return found

    def write(self, table, number, row):
        self.held[number] = (table, row, self.next_version)
        self.next_version += 1

    # Calls and programs.

    def call(self, word):
        """How a call ends, with its trace; what is stale is told alone."""
        self.trace = []
        self.frames, self.handled, self.cursors = [], [], []
        self.time = self.begun = self.within = self.statements_on_rows = 0
        fault = Looked(self, self.made[word]).first()
        if fault is not None:
            return "stale", word, *fault
        self.trace.append(("enter", word))
        self.mark()
        k = self.last_mark
        found = None
        try:
            found = self.program(self.made[word], {param[0]: None for param in self.made[word][2]})
        except Came as came:
            stopped = Stop(came)
        except Stop as stop:
            stopped = stop
        if found is None:
            self.undo(k)
        self.free(k)
        if found is not None:
            return "ended", found, self.trace
        if stopped.stale is not None:
            return "stale", *stopped.stale
        return "raised", self.told(stopped.came), self.trace

    def told(self, came):
        causes = []
        cause = came.cause
        while cause is not None:
            causes.append((cause.word, cause.details, cause.program, cause.place))
            cause = cause.cause
        return came.word, came.details, came.program, came.place, came.stack, tuple(causes)

    def begin(self, tree, scope):
        """A program that begins within others."""
        if self.begun >= self.most:
            self.come("long")
        if self.within >= 8:
            self.come("depth")
        self.look_at(tree)
        self.begun += 1
        self.within += 1
        self.trace.append(("enter", tree[1]))
        try:
            return self.program(tree, scope)
        finally:
            self.within -= 1

    def look_at(self, tree):
        # Looked at each time, which is to say no more than at each change.
        key = (id(tree), *[(word, id(self.made[word])) for word in sorted(self.made)])
        if key not in self.looked:
            self.looked[key] = Looked(self, tree).first()
        if self.looked[key] is not None:
            raise Stop(stale=(tree[1], *self.looked[key]))

    def null(self, kind):
        return (None,) * len(self.columns(kind[1])) if kind[0] == "row" else super().null(kind)

    def program(self, tree, scope):
        frame = Frame(tree[1])
        frame.tree = tree
        frame.scopes.append(scope)
        self.frames.append(frame)
        way, value, skips = "end", None, False
        try:
            self.statement(tree[-1], ())
            if tree[0] == "function":
                frame.place = ()
                self.come("noreturn")
        except Return as returned:
            way, value = "return", returned.args[0]
        except Skip:
            way, skips = "return", True
        except (Came, Stop) as left:
            if isinstance(left, Came):
                self.end_owner(frame)
            self.trace.append(("leave", "signal"))
            self.frames.pop()
            raise
        self.end_owner(frame)
        self.trace.append(("leave", way))
        self.frames.pop()
        if tree[0] == "function":
            return value
        if tree[0] == "trigger":
            return skips, scope["new"]
        return tuple(scope[word] for word, _, passing in tree[2] if passing != "in")

    def come(self, word, details=()):
        try:
            super().come(word, details)
        except Came as came:
            if word == "long":
                raise Stop(came)
            raise

    def way_out(self, action):
        try:
            return super().way_out(action)
        except Skip as way:
            return way

    def statement(self, tree, place):
        self.look_at(self.frames[-1].tree)
        super().statement(tree, place)

    def round(self, label, statements, place):
        self.frames[-1].place = place
        if self.begun >= self.most:
            self.come("long")
        self.look_at(self.frames[-1].tree)
        self.begun += 1
        return super().round(label, statements, place)

    def do_while(self, tree, place):
        more = True
        while more:
            self.frames[-1].place = place
            self.look_at(self.frames[-1].tree)
            more = self.value(tree[2]) is True and self.round(tree[1], tree[3], place)

    def do_each(self, tree, place):
        for _, row in self.chosen(tree[3], tree[4]):
            if not self.round_with(tree, row, place):
                return

    def round_with(self, tree, row, place):
        """A round of an each: it begins, then the variable gets the row."""
        self.waiting = (tree[2], row)
        return self.round(tree[1], tree[5], place)

    def statements(self, statements, place):
        waiting, self.waiting = self.waiting, None
        if waiting is not None:
            self.scope_of(waiting[0])[waiting[0]] = waiting[1]
        super().statements(statements, place)

    def do_return(self, tree, place):
        raise Return(None if tree[1] is None else self.value(tree[1]))

    def do_skip(self, tree, place):
        raise Skip

    def do_new(self, tree, place):
        value = self.value(tree[2])
        row = list(self.frames[-1].scopes[0]["new"])
        row[self.columns(self.frames[-1].tree[2]).index(tree[1])] = value
        self.frames[-1].scopes[0]["new"] = tuple(row)

    def do_do(self, tree, place):
        self.procedure(self.made[tree[1]], tree[2], [self.value(arg) for arg in tree[2]])

    def do_doby(self, tree, place):
        word = self.value(tree[1])
        values = [self.value(arg) for arg in tree[2]]
        found = self.made.get(word)
        if found is None or found[0] != "procedure" or len(found[2]) != len(values):
            self.come("noproc")
        assert not values
        self.procedure(found, tree[2], values)

    def procedure(self, tree, args, values):
        scope = {word: None if way == "out" else value for (word, _, way), value in zip(tree[2], values)}
        given = self.begin(tree, scope)
        words = [arg[1] for param, arg in zip(tree[2], args) if param[2] != "in"]
        for word, value in zip(words, given):
            self.scope_of(word)[word] = value

    def do_make(self, tree, place):
        self.check_free()
        word = tree[1][1]
        if word in self.made or word in self.trees:
            self.come("known", (word,))
        self.made[word] = tree[1]
        self.deed("make", (("program", tree[1]),))

    def do_drop(self, tree, place):
        self.check_free()
        if tree[1] not in self.made:
            self.come("unknown", (tree[1],))
        del self.made[tree[1]]
        self.deed("drop", (tree[1],))

    def check_free(self):
        if self.statements_on_rows:
            self.come("busy")

    # Expressions; row is (word of a table or view, values).

    def value(self, e, row=None):
        head = e[0]
        if head == "col":
            return row[1][self.columns(row[0]).index(e[1])]
        if head == "field":
            table = self.table_of_row(e[1])
            return self.scope_of(e[1])[e[1]][self.columns(table).index(e[2])]
        if head in ("not", "null"):
            found = self.value(e[1], row)
            return found is None if head == "null" else None if found is None else not found
        if head == "case":
            return self.value(e[2] if self.value(e[1], row) is True else e[3], row)
        if head in ("count", "sum", "least", "most"):
            return self.over_rows(e)
        if head == "number":
            return self.number(e[1])
        if head == "call":
            values = [self.value(arg, row) for arg in e[2]]
            tree = self.made[e[1]]
            return self.begin(tree, {param[0]: value for param, value in zip(tree[2], values)})
        return super().value(e, row)

    def table_of_row(self, word):
        """The table of a row variable: r is always one of t, the others are those of triggers."""
        return "t" if word == "r" else self.frames[-1].tree[2]

    def over_rows(self, e):
        head, word = e[:2]
        found = None
        for _, row in self.shown(word):
            if self.value(e[-1], (word, row)) is not True:
                continue
            value = 1 if head == "count" else self.value(e[2], (word, row))
            if value is None:
                continue
            if head in ("count", "sum"):
                found = value if found is None else found + value
                self.check_range(found)
            else:
                found = value if found is None else {"least": min, "most": max}[head](found, value)
        return 0 if head == "count" and found is None else found

    def check_range(self, found):
        if isinstance(found, int) and abs(found) > 10 ** 30 or isinstance(found, str) and len(found) > 40:
            self.come("range")

    def operation(self, e, row):
        _, o, left, right = e
        a = self.value(left, row)
        if o in ("and", "or"):
            if a is (o == "or"):
                return a
            b = self.value(right, row)
            return b if b is (o == "or") else None if a is None or b is None else o == "and"
        b = self.value(right, row)
        if a is None or b is None:
            return None
        if o in ("div", "mod") and b == 0:
            self.come("division")
        found = {"+": lambda: a + b, "-": lambda: a - b, "*": lambda: a * b, "<": lambda: a < b, "=": lambda: a == b,
                 "div": lambda: a // b, "mod": lambda: a - b * (a // b), "join": lambda: a + b}[o]()
        self.check_range(found)
        return found

    # Rows of tables and views.

    def shown(self, word):
        """The rows of a table or view with their numbers, all of them before the first is gone through."""
        if word in self.tables:
            return [(n, self.held[n][1]) for n in sorted(self.held) if self.held[n][0] == word]
        under, pairs, c = self.trees[word][1:4]
        # This has one view alone over each table, so the order of the conditions is that of the rows.
        assert under in self.tables
        found = []
        for n, row in self.shown(under):
            if self.value(c, (under, row)) is True:
                found.append((n, tuple(row[self.columns(under).index(column)] for _, column in pairs)))
        return found

    def chosen(self, word, c):
        return [(n, row) for n, row in self.shown(word) if self.value(c, (word, row)) is True]

    def named(self, e, pairs):
        """The expression with the columns of the table in the place of those of the view."""
        if e[0] == "col":
            return ("col", dict(pairs)[e[1]])
        if e[0] in ("count", "sum", "least", "most", "value"):
            return e
        return tuple(self.named(part, pairs) if isinstance(part, tuple) and part and isinstance(part[0], str) else
                     tuple(self.named(arg, pairs) for arg in part) if isinstance(part, tuple) else part for part in e)

    # Statements on rows.

    def on_table(self, word, sets, c):
        """The statement on a view as one on its table: its table, sets, condition, fixed values, whole views."""
        if word in self.tables:
            return word, sets, c, {}, []
        _, under, pairs, own, whole = self.trees[word]
        sets = tuple((dict(pairs)[column], self.named(e, pairs)) for column, e in sets)
        c = None if c is None else ("op", "and", own, self.named(c, pairs))
        fixed = {}
        if own[0] == "op" and own[1] == "=" and own[2][0] == "col" and own[3][0] == "value":
            fixed[own[2][1]] = own[3][1]
        return under, sets, c, fixed, [(word, own)] if whole else []

    def whole_statement(self, word, event, into, changes, whole, cursor=None):
        before = self.state(), len(self.journal), len(self.marks)
        self.statements_on_rows += 1
        try:
            many = self.phases(word, event, changes(), whole, cursor)
            if self.statements_on_rows == 1:
                self.look(False)
        except (Came, Stop):
            (self.held, self.made), deeds, marks = before
            self.journal[deeds:] = [deed for deed in self.journal[deeds:] if deed[0] == "number"]
            del self.marks[marks:]
            self.trace.append(("fail",))
            raise
        finally:
            self.statements_on_rows -= 1
        if into is not None:
            self.scope_of(into)[into] = many
        return many

    def new_row(self, table, sets, row, fixed):
        values = {column: self.value(e, row) for column, e in sets}
        return tuple(values[name] if name in values else fixed[name] if name in fixed else self.value(default)
                     for name, _, _, default in self.trees[table][1])

    def changed_row(self, table, sets, row):
        values = {column: self.value(e, (table, row)) for column, e in sets}
        return tuple(values.get(name, old) for name, old in zip(self.columns(table), row))

    def do_put(self, tree, place):
        table, sets, _, fixed, whole = self.on_table(tree[1], (), None)
        pairs = dict(self.trees[tree[1]][2]) if tree[1] in self.views else {}
        sets = [(pairs.get(column, column), e) for column, e in tree[2]]
        self.whole_statement(table, "put", tree[3], lambda: [[None, None, self.new_row(table, sets, None, fixed)]], whole)

    def do_fill(self, tree, place):
        table, _, _, fixed, whole = self.on_table(tree[1], (), None)
        assert table == tree[1]

        def changes():
            found = []
            for _, row in self.shown(tree[3]):
                if self.value(tree[4], (tree[3], row)) is True:
                    found.append([None, None, self.new_row(table, tree[2], (tree[3], row), fixed)])
            return found

        self.whole_statement(table, "put", tree[5], changes, whole)

    def do_change(self, tree, place):
        table, sets, c, _, whole = self.on_table(*tree[1:4])

        def changes():
            found = []
            for n, row in self.shown(table):
                if self.value(c, (table, row)) is True:
                    found.append([n, row, self.changed_row(table, sets, row)])
            return found

        self.whole_statement(table, "change", tree[4], changes, whole)

    def do_take(self, tree, place):
        table, _, c, _, whole = self.on_table(tree[1], (), tree[2])
        self.whole_statement(table, "take", tree[3], lambda: [
            [n, row, None] for n, row in self.shown(table) if self.value(c, (table, row)) is True], whole)

    def phases(self, table, event, changes, whole, cursor):
        """What follows the reading; how many changes were written."""
        nothing = (None,) * len(self.columns(table))
        for change in list(changes):
            for trigger in self.triggers(table, "before", event):
                skips, new = self.begin(trigger, {"old": change[1] or nothing, "new": change[2] or nothing})
                if change[2] is not None:
                    change[2] = new
                if skips:
                    changes.remove(change)
                    break
        for _, _, new in changes:
            if new is not None:
                self.check_row(table, new, whole)
        for change in changes:
            self.write_change(table, change, cursor)
        for _, _, new in changes:
            if new is not None:
                self.check_keys(table, new)
        for change in changes:
            self.cascade(table, change)
        for _, old, new in changes:
            for trigger in self.triggers(table, "after", event):
                self.begin(trigger, {"old": old or nothing, "new": new or nothing})
        return len(changes)

    def triggers(self, table, when, event):
        return [self.made[word] for word in sorted(self.made) if self.made[word][0] == "trigger" and self.made[word][2:5] == (table, when, event)]

    def check_row(self, table, new, whole):
        for (name, _, may, _), value in zip(self.trees[table][1], new):
            if value is None and not may:
                self.come("null", (table, name))
        for word, c in self.trees[table][3]:
            if self.value(c, (table, new)) is False:
                self.come("check", (table, word))
        for word, c in whole:
            if self.value(c, (table, new)) is not True:
                self.come("view", (word,))

    def write_change(self, table, change, cursor):
        n, old, new = change
        if new is None:
            del self.held[n]
            self.deed("take", table, n)
            return
        if old is None:
            n = change[0] = self.next_number
            self.next_number += 1
        self.write(table, n, new)
        self.deed("put" if old is None else "change", table, n, new)
        if cursor is not None:
            cursor.given.add(self.held[n][2])

    def values_of(self, table, row, columns):
        return [row[self.columns(table).index(name)] for name in columns]

    def check_keys(self, table, new):
        for k, key in enumerate(self.trees[table][2]):
            values = self.values_of(table, new, key)
            if None not in values and [self.values_of(table, row, key) for _, row in self.shown(table)].count(values) > 1:
                self.come("key", (table, k))

    def cascade(self, table, change):
        _, old, new = change
        if old is None or not self.trees[table][2]:
            return
        key = self.trees[table][2][0]
        gone = self.values_of(table, old, key)
        if None in gone or gone in [self.values_of(table, row, key) for _, row in self.shown(table)]:
            return
        for word in self.tables:
            for _, columns, other, act, _ in self.trees[word][4]:
                found = [(n, row) for n, row in self.shown(word) if self.values_of(word, row, columns) == gone]
                if other != table or act == "keep" or not found:
                    continue
                values = [None] * len(gone) if act == "null" else None if new is None else self.values_of(table, new, key)
                changes = []
                for n, row in found:
                    given = dict(zip(columns, values or ()))
                    changes.append([n, row, None if values is None else tuple(given.get(name, x) for name, x in zip(self.columns(word), row))])
                self.inner_statement(word, "take" if values is None else "change", changes)

    def inner_statement(self, word, event, changes):
        if self.within >= 8:
            self.come("depth")
        self.within += 1
        self.statements_on_rows += 1
        try:
            self.phases(word, event, changes, [], None)
        finally:
            self.within -= 1
            self.statements_on_rows -= 1

    def look(self, with_late):
        for word in self.tables:
            for name, columns, other, _, late in self.trees[word][4]:
                there = [self.values_of(other, row, self.trees[other][2][0]) for _, row in self.shown(other)]
                for _, row in self.shown(word):
                    values = self.values_of(word, row, columns)
                    if (with_late or not late) and None not in values and values not in there:
                        self.come("refer", (word, name))

    def do_look(self, tree, place):
        self.look(True)

    # Cursors, all over t.

    def do_open(self, tree, place):
        cursor = self.value(("var", tree[1]))
        if cursor.kept is not None:
            self.close(cursor)
        found = self.chosen(tree[2], tree[3])
        self.time += 1
        cursor.kept = [(n, row, self.held[n][2]) for n, row in found]
        cursor.opened, cursor.at, cursor.fetched = self.time, 0, None
        self.cursors.append(cursor)

    def fetched(self, word):
        cursor = self.value(("var", word))
        if cursor.kept is None or cursor.fetched is None:
            self.failed("cursor", (word,))
        n, _, version = cursor.fetched
        if n not in self.held or self.held[n][2] != version and self.held[n][2] not in cursor.given:
            self.failed("gone", ("t",))
        return cursor, n

    def do_changeat(self, tree, place):
        cursor, n = self.fetched(tree[1])
        row = self.held[n][1]
        self.whole_statement("t", "change", None, lambda: [[n, row, self.changed_row("t", tree[2], row)]], [], cursor)

    def do_takeat(self, tree, place):
        cursor, n = self.fetched(tree[1])
        if self.whole_statement("t", "take", None, lambda: [[n, self.held[n][1], None]], []):
            cursor.fetched = None
