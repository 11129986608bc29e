"""Deeds done one after the other, as point 31 tells, without the program."""

from deedstore.errors import BadThing, Known, Unknown, Used
from deedstore.stores import Store
from deedstore.values import is_value


class Replay:
    """Things and rows, as deeds make them."""

    def __init__(self, store):
        words = store.tables + store.views + store.programs
        self.things = {word: store.thing(word) for word in words}
        self.rows = {number: (word, row) for word in store.tables for number, row in store.rows(word)}
        self.numbers = {word: store.following(word) for word in store.sequences}
        self.steps = {word: store.thing(word)[2] for word in store.sequences}
        self.marks = []
        self.first = None

    def do(self, history):
        for deed in history:
            getattr(self, deed[0])(*deed[1:])
        return self

    def put(self, table, number, row):
        assert number >= 0 and number not in self.rows and len(row) == len(self.things[table][1])
        self.rows[number] = (table, row)

    def change(self, table, number, row):
        assert self.rows[number][0] == table and len(row) == len(self.things[table][1])
        self.rows[number] = (table, row)

    def take(self, table, number):
        assert self.rows[number][0] == table
        del self.rows[number]

    def make(self, things):
        assert things
        for kind, thing in things:
            word = thing[1] if kind == "program" else thing[0]
            assert word not in self.things
            self.things[word] = thing

    def drop(self, words):
        assert words
        for word in words:
            assert word not in [table for table, _ in self.rows.values()]
            del self.things[word]

    def number(self, sequence, value):
        assert self.numbers[sequence] == value
        self.numbers[sequence] += self.steps[sequence]

    def mark(self, k):
        self.first = k if self.first is None else self.first
        assert k == self.first + len(self.marks)
        self.marks.append((dict(self.things), dict(self.rows)))

    def undo(self, k):
        assert 0 <= k - self.first < len(self.marks)
        del self.marks[k - self.first + 1:]
        self.things, self.rows = map(dict, self.marks[-1])

    def free(self, k):
        assert 0 <= k - self.first < len(self.marks)
        del self.marks[k - self.first:]

    def state(self):
        return (self.things, self.rows, self.numbers)


class Strict(Replay):
    """The same, with all that point 31 asks of each deed; things are made and dropped by a store."""

    KINDS = {int: "int", str: "text", bool: "truth"}

    def __init__(self, store):
        super().__init__(store)
        self.store = Store.of(*[("sequence", store.thing(word)) for word in store.sequences])
        self.store.begin()
        things = [("table", store.tables), ("view", store.views), ("program", store.programs)]
        self.store.make(*[(kind, store.thing(word)) for kind, words in things for word in words])

    def first_wrong(self, history):
        """The index of the first deed that cannot be done, None if all are done."""
        for index, deed in enumerate(history):
            if not self.can_do(deed):
                return index
            super().do((deed,))
        return None

    def can_do(self, deed):
        if not isinstance(deed, tuple) or not deed or not isinstance(deed[0], str):
            return False
        test = {
            "put": self.can_put, "change": self.can_change, "take": self.can_take, "make": self.can_make, "drop": self.can_drop,
            "number": self.can_number, "mark": self.can_mark, "undo": self.can_undo, "free": self.can_undo}.get(deed[0])
        many = {"put": 4, "change": 4, "take": 3, "number": 3}.get(deed[0], 2)
        return test is not None and len(deed) == many and test(*deed[1:])

    def has_table(self, table):
        return isinstance(table, str) and table in self.store.tables

    def can_put(self, table, number, row):
        if type(number) is not int or number < 0 or number in self.rows or not self.has_table(table):
            return False
        columns = self.store.thing(table)[1]
        if not isinstance(row, tuple) or len(row) != len(columns):
            return False
        return all(x is None or self.KINDS.get(type(x)) == part[1] and is_value(x) for x, part in zip(row, columns))

    def can_change(self, table, number, row):
        if not self.can_take(table, number):
            return False
        kept = self.rows.pop(number)
        found = self.can_put(table, number, row)
        self.rows[number] = kept
        return found

    def can_take(self, table, number):
        return self.has_table(table) and type(number) is int and number in self.rows and self.rows[number][0] == table

    def can_make(self, things):
        if not isinstance(things, tuple) or not things:
            return False
        try:
            self.store.make(*things)
        except (BadThing, Known):
            return False
        return True

    def can_drop(self, words):
        if not isinstance(words, tuple) or not words:
            return False
        if any(isinstance(word, str) and word in [table for table, _ in self.rows.values()] for word in words):
            return False
        try:
            self.store.drop(*words)
        except (Unknown, Used):
            return False
        return True

    def can_number(self, sequence, value):
        if not isinstance(sequence, str) or sequence not in self.numbers or type(value) is not int:
            return False
        return value == self.numbers[sequence] and is_value(value)

    def can_mark(self, k):
        if type(k) is not int or k < 0:
            return False
        if self.first is None or k == self.first + len(self.marks):
            self.store.mark()
            return True
        return False

    def can_undo(self, k):
        return type(k) is int and self.first is not None and 0 <= k - self.first < len(self.marks)

    def undo(self, k):
        super().undo(k)
        self.store.undo(k - self.first)

    def free(self, k):
        super().free(k)
        self.store.free(k - self.first)
