"""Deeds done one after the other, as point 31 tells, without the program."""


class Replay:
    """Things and rows, as deeds make them."""

    def __init__(self, store):
        words = store.tables + store.views + store.programs
        self.things = {word: store.thing(word) for word in words}
        self.rows = {number: (word, row) for word in store.tables for number, row in store.rows(word)}
        self.numbers = {word: store.following(word) for word in store.sequences}
        self.steps = {word: store.thing(word)[2] for word in store.sequences}
        self.marks = []
        self.first = None

    def do(self, history):
        for deed in history:
            getattr(self, deed[0])(*deed[1:])
        return self

    def put(self, table, number, row):
        assert number >= 0 and number not in self.rows and len(row) == len(self.things[table][1])
        self.rows[number] = (table, row)

    def change(self, table, number, row):
        assert self.rows[number][0] == table and len(row) == len(self.things[table][1])
        self.rows[number] = (table, row)

    def take(self, table, number):
        assert self.rows[number][0] == table
        del self.rows[number]

    def make(self, things):
        assert things
        for kind, thing in things:
            word = thing[1] if kind == "program" else thing[0]
            assert word not in self.things
            self.things[word] = thing

    def drop(self, words):
        assert words
        for word in words:
            assert word not in [table for table, _ in self.rows.values()]
            del self.things[word]

    def number(self, sequence, value):
        assert self.numbers[sequence] == value
        self.numbers[sequence] += self.steps[sequence]

    def mark(self, k):
        self.first = k if self.first is None else self.first
        assert k == self.first + len(self.marks)
        self.marks.append((dict(self.things), dict(self.rows)))

    def undo(self, k):
        assert 0 <= k - self.first < len(self.marks)
        del self.marks[k - self.first + 1:]
        self.things, self.rows = map(dict, self.marks[-1])

    def free(self, k):
        assert 0 <= k - self.first < len(self.marks)
        del self.marks[k - self.first:]

    def state(self):
        return (self.things, self.rows, self.numbers)
