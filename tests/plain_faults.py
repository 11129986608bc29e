"""A plain reading of points 12, 40, 42 and 43: all faults of a program, one after the other.

Each part of a program yields its faults from left to right; only the first one that comes
is of use, as what is behind a fault is looked at as if there were none.
"""

KINDS = ("int", "text", "truth")
QUIET = "put fill change take changeat takeat mark back free do doby make drop look".split()


class Looked:
    """A program that is looked at against what a store has."""

    def __init__(self, store, program):
        self.store = store
        self.program = program
        self.quiet = program[0] == "function" or program[0] == "trigger" and program[3] == "before"

    def first(self):
        return next(self.faults(), None)

    # What is there.

    def columns(self, word):
        """The kinds of the columns of a table or view, None if it is not there."""
        if word in self.store.tables:
            return {part[0]: part[1] for part in self.store.thing(word)[1]}
        if word in self.store.views:
            _, under, pairs, _, _ = self.store.thing(word)
            below = self.columns(under)
            return {name: below[column] for name, column in pairs}
        return None

    def called(self, word, sort):
        tree = self.store.thing(word) if word in self.store.programs else None
        return tree if tree is not None and tree[0] == sort else None

    # Expressions: their own names, then the expressions in them, then the kinds of these.

    def kind(self, e, columns, variables, handling):
        head = e[0]
        if head == "value":
            return {bool: "truth", int: "int", str: "text", type(None): None}[type(e[1])]
        if head in ("var", "col"):
            there = variables if head == "var" else columns
            if e[1] not in there:
                yield "name", e[1]
            return there.get(e[1])
        if head == "field":
            kind = variables.get(e[1])
            if not isinstance(kind, tuple) or kind[0] != "row":
                yield "name", e[1]
            there = self.columns(kind[1]) or {}
            if e[2] not in there:
                yield "name", e[2]
            return there[e[2]]
        if head in ("word", "told"):
            if not handling:
                yield "handler", head
            return "text" if head == "word" else e[2]
        if head == "number":
            if self.quiet:
                yield "quiet", "number"
            if e[1] not in self.store.sequences:
                yield "name", e[1]
            return "int"
        if head == "call":
            return (yield from self.call(e, columns, variables, handling))
        return (yield from self.by_parts(e, columns, variables, handling))

    def call(self, e, columns, variables, handling):
        tree = self.called(e[1], "function")
        if tree is None:
            yield "name", e[1]
        kinds = []
        for arg in e[2]:
            kinds.append((yield from self.kind(arg, columns, variables, handling)))
        if len(kinds) != len(tree[2]):
            yield "kind", None
        for arg, kind, param in zip(e[2], kinds, tree[2]):
            if not self.fits(arg, kind, param):
                yield "kind", None
        return tree[3]

    def fits(self, arg, kind, param):
        _, wanted, way = param
        if way == "in" and wanted in KINDS:
            return kind in (None, wanted)
        return arg[0] == "var" and kind == wanted

    def by_parts(self, e, columns, variables, handling):
        head = e[0]
        first = 1
        if head == "op":
            first = 2
        elif head in ("count", "sum", "least", "most"):
            first = 2
            columns = self.columns(e[1])
            if columns is None:
                yield "name", e[1]
        kinds = []
        for part in e[first:]:
            kinds.append((yield from self.kind(part, columns, variables, handling)))
        wanted, own = self.wanted(e, kinds)
        for kind, allowed in zip(kinds, wanted):
            if kind is not None and kind not in allowed:
                yield "kind", None
        return own

    def wanted(self, e, kinds):
        """The kinds that the parts may have, and the kind of the whole."""
        head = e[0]
        if head == "op":
            o = e[1]
            if o in ("+", "-", "*", "div", "mod"):
                return (("int",),) * 2, "int"
            if o == "join":
                return (("text",),) * 2, "text"
            if o in ("and", "or"):
                return (("truth",),) * 2, "truth"
            allowed = KINDS if o == "=" else ("int", "text")
            return (allowed, allowed if kinds[0] is None else (kinds[0],)), "truth"
        if head == "not":
            return (("truth",),), "truth"
        if head == "null":
            return (KINDS,), "truth"
        if head == "case":
            return (("truth",), KINDS, KINDS if kinds[1] is None else (kinds[1],)), kinds[1] or kinds[2]
        if head == "count":
            return (("truth",),), "int"
        if head == "sum":
            return (("int",), ("truth",)), "int"
        return (("int", "text"), ("truth",)), kinds[0]

    # Programs and their statements.

    def faults(self):
        program = self.program
        variables = {}
        if program[0] == "trigger":
            if program[2] not in self.store.tables:
                yield (), ("name", program[2])
            variables = {"old": ("row", program[2], "trigger"), "new": ("row", program[2], "trigger")}
        else:
            for word, kind, _ in program[2]:
                if word in variables:
                    yield (), ("twice", word)
                variables[word] = kind
                if isinstance(kind, tuple) and self.columns(kind[1]) is None:
                    yield (), ("name", kind[1])
        yield from self.statement(program[-1], (), variables, {}, False)

    def statement(self, tree, place, variables, labels, handling):
        for fault in self.own(tree, variables, labels, handling):
            yield place, (fault[0], tree[0] if fault[0] == "kind" else fault[1])
        head = tree[0]
        if head == "if":
            for k, statements in enumerate([part[1] for part in tree[1]] + [tree[2]]):
                yield from self.statements(statements, (*place, k), variables, labels, handling)
        elif head in ("while", "each"):
            yield from self.statements(tree[-1], (*place, 0), variables, {**labels, tree[1]: "loop"}, handling)
        elif head == "block":
            inner = {**variables, **{word: kind for word, kind, _ in tree[2]}}
            within = {**labels, tree[1]: "block"}
            yield from self.statements(tree[3], (*place, 0), inner, within, handling)
            for k, (_, statements) in enumerate(tree[4]):
                yield from self.statements(statements, (*place, 1 + k), inner, within, True)
            yield from self.statements(tree[5], (*place, 1 + len(tree[4])), inner, labels, handling)

    def statements(self, statements, place, *around):
        for k, statement in enumerate(statements):
            yield from self.statement(statement, (*place, k), *around)

    def own(self, tree, variables, labels, handling):
        """The faults of a statement itself."""
        head = tree[0]
        if head in QUIET and self.quiet:
            yield "quiet", head

        def expect(e, columns, *kinds):
            kind = yield from self.kind(e, columns, variables, handling)
            if kind is not None and kind not in kinds:
                yield "kind", None

        def has_variable(word):
            if word not in variables:
                yield "name", word

        def is_a(sort, word):
            yield from has_variable(word)
            kind = variables[word]
            if not isinstance(kind, tuple) or kind[0] != sort or sort == "row" and len(kind) == 3:
                yield "kind", None

        def has_table(word):
            if self.columns(word) is None:
                yield "name", word

        def rows(sort, word, table, c):
            yield from is_a(sort, word)
            yield from has_table(table)
            if variables[word][1] != table:
                yield "kind", None
            yield from expect(c, self.columns(table), "truth")

        def sets(pairs, there, columns):
            for k, (column, e) in enumerate(pairs):
                if column not in there or column in [other[0] for other in pairs[:k]]:
                    yield "name", column
                yield from expect(e, columns, there[column])

        def into(word):
            if word is not None:
                yield from has_variable(word)
                if variables[word] != "int":
                    yield "kind", None

        if head == "block":
            if tree[1] is not None and tree[1] in labels:
                yield "twice", tree[1]
            variables = {**variables, **{word: kind for word, kind, _ in tree[2]}}
            for k, (word, kind, e) in enumerate(tree[2]):
                if word in [other[0] for other in tree[2][:k]]:
                    yield "twice", word
                if isinstance(kind, tuple):
                    yield from has_table(kind[1])
                elif e is not None:
                    yield from expect(e, {}, kind)
        elif head == "set":
            yield from has_variable(tree[1])
            if isinstance(variables[tree[1]], tuple):
                yield "kind", None
            yield from expect(tree[2], {}, variables[tree[1]])
        elif head == "if":
            for c, _ in tree[1]:
                yield from expect(c, {}, "truth")
        elif head in ("while", "each"):
            if tree[1] is not None and tree[1] in labels:
                yield "twice", tree[1]
            yield from expect(tree[2], {}, "truth") if head == "while" else rows("row", *tree[2:5])
        elif head in ("leave", "next"):
            if labels.get(tree[1]) not in (("loop",) if head == "next" else ("loop", "block")):
                yield "label", tree[1]
        elif head == "return":
            if (tree[1] is None) == (self.program[0] == "function"):
                yield "return", "return"
            if tree[1] is not None:
                yield from expect(tree[1], {}, self.program[3])
        elif head in ("put", "change", "take"):
            yield from has_table(tree[1])
            there = self.columns(tree[1])
            if head != "take":
                yield from sets(tree[2], there, {} if head == "put" else there)
            if head != "put":
                yield from expect(tree[-2], there, "truth")
            yield from into(tree[-1])
        elif head == "fill":
            yield from has_table(tree[1])
            yield from sets(tree[2], self.columns(tree[1]), self.columns(tree[3]) or {})
            yield from has_table(tree[3])
            yield from expect(tree[4], self.columns(tree[3]), "truth")
            yield from into(tree[5])
        elif head in ("get", "open"):
            yield from rows("row" if head == "get" else "cursor", *tree[1:])
        elif head == "fetch":
            yield from is_a("cursor", tree[1])
            yield from is_a("row", tree[2])
            if variables[tree[1]][1] != variables[tree[2]][1]:
                yield "kind", None
            yield from has_variable(tree[3])
            if variables[tree[3]] != "truth":
                yield "kind", None
        elif head in ("changeat", "takeat", "close"):
            yield from is_a("cursor", tree[1])
            if head == "changeat":
                there = self.columns(variables[tree[1]][1])
                yield from sets(tree[2], there, there)
        elif head == "raise":
            for e in tree[2]:
                yield from expect(e, {}, *KINDS)
        elif head == "again":
            if not handling:
                yield "handler", "again"
        elif head == "do":
            procedure = self.called(tree[1], "procedure")
            if procedure is None:
                yield "name", tree[1]
            for k, arg in enumerate(tree[2]):
                kind = yield from self.kind(arg, {}, variables, handling)
                if k < len(procedure[2]) and not self.fits(arg, kind, procedure[2][k]):
                    yield "kind", None
            if len(tree[2]) != len(procedure[2]):
                yield "kind", None
        elif head == "doby":
            yield from expect(tree[1], {}, "text")
            for arg in tree[2]:
                yield from self.kind(arg, {}, variables, handling)
        elif head in ("new", "skip"):
            program = self.program
            if program[0] != "trigger" or program[3] != "before" or head == "new" and program[4] == "take":
                yield "trigger", head
            if head == "new":
                there = self.columns(program[2])
                if tree[1] not in there:
                    yield "trigger", tree[1]
                yield from expect(tree[2], {}, there[tree[1]])
