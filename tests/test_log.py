"""Points 60 and 61: the lines of the log, recovery, checkpoints, joined logs."""

from deedstore.errors import Busy, InTransaction, NoTransaction
from deedstore.logged import LoggedStore, LoggedTimedStore
from deedstore.machines import run
from deedstore.stores import Store
from deedstore.trees import read_tree, write_tree
from tests.build import (
    NULL, TRUE, StoreTest, block, col, column, equal, handler, op, procedure, programs, put,
    raise_, sets, table, view,
)

T = table("t", "a", column("b", "text"))
S = ("s", 1, 1)
KINDS = (LoggedStore, LoggedTimedStore)


def checksum(lines):
    """The sum of a commit, told by its lines but the last one."""
    text = "".join(line + "\n" for line in lines)
    return sum(ord(sign) * (k + 1) for k, sign in enumerate(text)) % 1000000007


def commit(n, *deeds):
    """The lines of a commit."""
    lines = [write_tree(tree) for tree in (("begin", n), *deeds)]
    return lines + [write_tree(("commit", n, checksum(lines)))]


def text_of(*lines):
    """The text with these lines, trees or texts."""
    return "".join((line if isinstance(line, str) else write_tree(line)) + "\n" for line in lines)


class LineTest(StoreTest):
    def has_lines(self, store, *lines):
        self.assertEqual(store.log, text_of(*lines))

    def test_nothing(self):
        for kind in KINDS:
            self.assertEqual(kind().log, "")
            self.has_lines(kind.of(), *commit(1))

    def test_each_kind_of_line(self):
        store = LoggedStore.of(("sequence", S), ("table", T))
        made = ("make", (("table", T),))
        lines = [write_tree(("sequence", S))] + commit(1, made)
        self.has_lines(store, *lines)
        store.add_sequence(("q", 5, -2))
        lines.append('("sequence" ("q" 5 -2))')
        store.begin()
        self.has_lines(store, *lines)
        store.put("t", sets(a=7, b="x\\\"y"))
        store.put("t", sets(a=("number", "s")))
        lines.append('("lot" "s" 8)')
        self.has_lines(store, *lines)
        store.change("t", sets(b=NULL), equal(col("a"), 7))
        store.take("t", TRUE)
        v = view("v", "t", ("a",))
        store.make(("view", v), *programs(procedure("p")))
        store.drop("v", "p")
        self.has_lines(store, *lines)
        store.commit()
        lines += commit(
            2, ("put", "t", 0, (7, "x\\\"y")), ("put", "t", 1, (1, None)), ("change", "t", 0, (7, None)), ("take", "t", 0),
            ("take", "t", 1), ("make", (("view", v), ("program", procedure("p")))), ("drop", ("v", "p")))
        self.has_lines(store, *lines)
        store.begin()
        store.commit()
        self.has_lines(store, *(lines + commit(3)))

    def test_the_sum(self):
        store = LoggedStore()
        store.begin()
        store.commit()
        # 40 * 1 + 34 * 2 and so on, of the line ("begin" 1) and its newline.
        begin = '("begin" 1)\n'
        self.assertEqual(store.log, begin + '("commit" 1 %d)\n' % sum(ord(c) * k for k, c in enumerate(begin, 1)))

    def test_the_sum_is_taken_by_its_modulus(self):
        store = LoggedStore.of(("table", T))
        store.begin()
        for k in range(300):
            store.put("t", sets(a=10 ** 30, b="~" * 40))
        store.commit()
        last = store.log.split("\n")[-2]
        lines = store.log[store.log.index('("begin" 2)'):].split("\n")[:-2]
        self.assertEqual(len(lines), 301)
        text = "\n".join(lines) + "\n"
        total = sum(ord(c) * k for k, c in enumerate(text, 1))
        self.assertGreater(total, 1000000007)
        self.assertEqual(last, '("commit" 2 %d)' % (total % 1000000007))

    def test_the_straight_history_is_written(self):
        store = LoggedStore.of(("sequence", S), ("table", T))
        begin = store.log
        store.begin()
        store.put("t", sets(a=1))
        store.mark()
        store.put("t", sets(a=2))
        store.mark()
        store.number("s")
        store.take("t", equal(col("a"), 1))
        store.undo(1)
        store.put("t", sets(a=3))
        store.undo(0)
        store.put("t", sets(a=4))
        store.free(0)
        store.take("t", equal(col("a"), 4))
        self.signals("division", (), store.put, "t", sets(a=op("div", 1, 0)))
        store.commit()
        self.assertEqual(store.log, begin + text_of(('lot', 's', 8), *commit(
            2, ("put", "t", 0, (1, None)), ("put", "t", 3, (4, None)), ("take", "t", 3))))

    def test_what_is_rolled_back_is_not_written(self):
        store = LoggedStore.of(("sequence", S), ("table", T))
        begin = store.log
        store.begin()
        store.put("t", sets(a=("number", "s")))
        store.rollback()
        self.assertEqual(store.log, begin + '("lot" "s" 8)\n')
        t = table("u", "a", keys=(("a",),), references=(("r", ("a",), "u", "keep", True),))
        store.begin()
        store.make(("table", t))
        store.put("u", sets(a=1))
        store.commit()
        store.begin()
        store.make(("table", table("w", "a", references=(("r", ("a",), "u", "keep", True),))))
        store.put("w", sets(a=9))
        begin = store.log
        self.signals("refer", ("w", "r"), store.commit)
        self.assertEqual((store.log, store.commits), (begin, 2))

    def test_lots(self):
        for first, step in ((1, 1), (5, -3), (0, 10 ** 29)):
            store = LoggedStore.of(("sequence", ("s", first, step)))
            begin = store.log
            store.begin()
            lots = []
            for k in range(8):
                self.assertEqual(store.number("s"), first + k * step)
                lots = [first + 7 * step]
                self.assertEqual(store.log, begin + text_of(("lot", "s", lots[0])))
            if step < 10 ** 29:
                store.number("s")
                self.assertEqual(store.log, begin + text_of(("lot", "s", lots[0]), ("lot", "s", first + 15 * step)))

    def test_lots_at_the_end_of_the_values(self):
        store = LoggedStore.of(("sequence", ("s", 10 ** 30 - 2, 1)), ("sequence", ("d", -(10 ** 30) + 11, -2)))
        begin = store.log
        store.begin()
        store.number("s")
        store.number("d")
        self.assertEqual(store.log, begin + text_of(("lot", "s", 10 ** 30), ("lot", "d", -(10 ** 30) + 1)))
        store.number("s")
        store.number("s")
        before = store.log
        self.signals("range", (), store.number, "s")
        self.assertEqual(store.log, before)
        self.assertEqual(LoggedStore.recovered(store.log).following("s"), 10 ** 30 + 1)

    def test_within_statements_and_calls(self):
        t = table("t", column("a", default=("number", "s")))
        guard = block(put("t"), raise_("e"), handlers=(handler("e"),))
        store = LoggedStore.of(("sequence", S), ("table", t), *programs(procedure("p", guard, put("t"))))
        begin = store.log
        store.begin()
        history = run(store, "p").history
        self.assertIn(("number", "s", 2), history)
        store.commit()
        self.assertEqual(store.log, begin + text_of(("lot", "s", 8), *commit(2, ("put", "t", 1, (2,)))))

    def test_it_does_what_a_plain_store_does(self):
        things = (("sequence", S), ("table", T), *programs(procedure("p", put("t", a=("number", "s")))))
        plain = Store.of(*things)
        for kind in KINDS:
            store = kind.of(*things)
            self.assertIs(type(store), kind)
            self.assertTrue(store == plain and plain == store)
            store.begin()
            run(store, "p")
            copy = store.copy()
            self.assertIs(type(copy), Store)
            log = store.log
            copy.number("s")
            copy.commit()
            self.assertEqual(store.log, log)
            store.commit()
            self.fails(NoTransaction, (), store.commit)


def full_log(kind=LoggedStore):
    """A store with some commits, lots and sequences, and the lines of its log."""
    t = table("t", column("a", default=("number", "s")), column("b", "text"), keys=(("a",),))
    store = kind.of(("sequence", S), ("table", t))
    store.begin()
    store.put("t", sets(b="x"))
    store.put("t", sets(b="y"))
    store.make(("view", view("v", "t", ("a",), equal(col("b"), "x"))), *programs(procedure("p", put("t"))))
    store.commit()
    store.add_sequence(("r", -1, -5))
    store.begin()
    store.put("t", sets(a=50))
    store.number("r")
    store.rollback()
    store.begin()
    store.change("t", sets(b="z"), equal(col("a"), 1))
    store.take("t", equal(col("a"), 2))
    store.put("t", sets(b="y"))
    store.drop("p")
    store.commit()
    store.begin()
    store.put("t", sets(a=99))
    store.number("s")
    store.commit()
    return store


class Replayed:
    """A plain reading of a log, line by line, that knows only what its lines say."""

    def __init__(self):
        self.kept = ""
        self.commits = 0
        self.things = {}
        self.rows = {}
        self.lots = {}

    def state(self):
        return (self.commits, self.things, self.rows, self.lots)


def replayed(lines):
    """What whole and right lines make, each line taken for right."""
    found = Replayed()
    inside = []
    for line in lines:
        tree = read_tree(line)
        if tree[0] == "sequence":
            found.things[tree[1][0]] = ("sequence", tree[1])
        elif tree[0] == "lot":
            found.lots[tree[1]] = tree[2]
        elif tree[0] == "begin":
            inside = []
        elif tree[0] == "commit":
            for deed in inside:
                follow(found, deed)
            found.commits = tree[1]
        else:
            inside.append(tree)
    return found


def follow(found, deed):
    if deed[0] == "make":
        for kind, thing in deed[1]:
            found.things[thing[1] if kind == "program" else thing[0]] = (kind, thing)
    elif deed[0] == "drop":
        for word in deed[1]:
            del found.things[word]
    elif deed[0] == "take":
        del found.rows[deed[2]]
    else:
        found.rows[deed[2]] = (deed[1], deed[3])


class RecoveryTest(StoreTest):
    def is_recovered(self, text, lines):
        """The store of the text has what these lines make, and they are its log."""
        for kind in KINDS:
            store = kind.recovered(text)
            self.assertIs(type(store), kind)
            found = replayed(lines)
            words = store.tables + store.views + store.programs + store.sequences
            self.assertEqual(store.log, text_of(*lines))
            self.assertEqual(store.commits, found.commits)
            self.assertEqual({word: store.thing(word) for word in words}, {word: thing for word, (_, thing) in found.things.items()})
            rows = {n: (word, row) for word in store.tables for n, row in store.rows(word)}
            self.assertEqual(rows, found.rows)
            for word in store.sequences:
                _, first, step = store.thing(word)
                wanted = found.lots[word] + step if word in found.lots else first
                self.assertEqual(store.following(word), wanted)
            self.assertEqual(store.journal, ())

    def groups(self, lines):
        """The lines in groups that count together: commits, and single lines."""
        found = []
        inside = False
        for line in lines:
            if inside:
                found[-1].append(line)
            else:
                found.append([line])
            inside = line.startswith('("begin"') or inside and not line.startswith('("commit"')
        return found

    def counted(self, groups, whole):
        """The lines of the groups up to the line with this index, in so far as they are whole."""
        found = []
        at = 0
        for group in groups:
            at += len(group)
            if at > whole:
                return found
            found += group
        return found

    def setUp(self):
        self.store = full_log()
        self.lines = self.store.log.split("\n")[:-1]

    def test_the_whole(self):
        self.is_recovered(self.store.log, self.lines)
        again = LoggedStore.recovered(self.store.log)
        self.assertTrue(again == self.store)
        self.assertEqual(again.log, self.store.log)
        # The next numbers lie behind the last lots.
        self.assertEqual((again.following("s"), again.following("r")), (9, -41))
        self.assertEqual((self.store.following("s"), self.store.following("r")), (5, -6))

    def test_it_goes_on(self):
        again = LoggedStore.recovered(self.store.log)
        again.begin()
        again.put("t", ())
        again.commit()
        self.assertEqual(list(again.rows("t"))[-1], (5, (9, None)))
        self.assertEqual(again.log, self.store.log + text_of(("lot", "s", 16), *commit(5, ("put", "t", 5, (9, None)))))
        self.is_recovered(again.log, again.log.split("\n")[:-1])

    def test_recovery_of_a_recovered_text(self):
        for cut in range(0, len(self.store.log), 7):
            once = LoggedStore.recovered(self.store.log[:cut])
            twice = LoggedStore.recovered(once.log)
            self.assertTrue(once == twice)
            self.assertEqual((once.log, once.commits), (twice.log, twice.commits))
            self.assertEqual([once.following(s) for s in once.sequences], [twice.following(s) for s in twice.sequences])

    def test_every_cut(self):
        groups = self.groups(self.lines)
        for cut in range(len(self.store.log) + 1):
            text = self.store.log[:cut]
            self.is_recovered(text, self.counted(groups, text.count("\n")))

    def test_each_line_left_out(self):
        groups = self.groups(self.lines)
        for k, line in enumerate(self.lines):
            text = text_of(*self.lines[:k], *self.lines[k + 1:])
            if line.startswith('("lot"'):
                # The lots that are left tell of the numbers.
                self.is_recovered(text, self.lines[:k] + self.lines[k + 1:])
            elif line == '("sequence" ("r" -1 -5))':
                self.is_recovered(text, self.lines[:k])
            elif k == 0:
                self.is_recovered(text, [])
            else:
                self.is_recovered(text, self.counted(groups, k))

    def test_each_line_doubled(self):
        groups = self.groups(self.lines)
        for k, line in enumerate(self.lines):
            text = text_of(*self.lines[:k + 1], *self.lines[k:])
            if line.startswith('("lot"'):
                self.is_recovered(text, self.lines[:k + 1] + self.lines[k:])
            elif line.startswith(('("sequence"', '("commit"')):
                self.is_recovered(text, self.lines[:k + 1])
            else:
                self.is_recovered(text, self.counted(groups, k))

    def test_each_line_exchanged_with_the_next(self):
        groups = self.groups(self.lines)
        singles = ('("lot"', '("sequence"')
        for k in range(len(self.lines) - 1):
            changed = self.lines[:k] + [self.lines[k + 1], self.lines[k]] + self.lines[k + 2:]
            first, second = self.lines[k:k + 2]
            if first.startswith('("sequence" ("r"') and second.startswith('("lot" "r"'):
                self.is_recovered(text_of(*changed), self.lines[:k])
            elif first.startswith(singles) and second.startswith(singles):
                self.is_recovered(text_of(*changed), changed)
            else:
                self.is_recovered(text_of(*changed), self.counted(groups, k))

    def test_one_sign_changed(self):
        groups = self.groups(self.lines)
        text = self.store.log
        starts = [text.index(line) for line in self.lines]
        for at, sign in enumerate(text):
            if text.count("\n", 0, at) in range(3, 9) and at % 3:
                continue
            changed = text[:at] + ("7" if sign != "7" else "6") + text[at + 1:]
            k = text.count("\n", 0, at)
            line = self.lines[k]
            if line.startswith('("lot"') or k == 0 or line.startswith('("sequence"'):
                # Another number may be right, too: the log that counts is then a text as it stands.
                store = LoggedStore.recovered(changed)
                self.assertTrue(changed.startswith(store.log))
                self.assertTrue(store.log.startswith(text_of(*self.lines[:k])))
            else:
                self.is_recovered(changed, self.counted(groups, k))
        self.assertEqual(len(starts), len(self.lines))


class WrongTest(StoreTest):
    """Lines that are wrong, behind two right commits."""

    def setUp(self):
        self.begin = ['("sequence" ("s" 1 1))'] + commit(1, ("make", (("table", T), ("view", view("v", "t", ("a",))))))
        self.begin += commit(2, ("put", "t", 4, (1, "x")))

    def ends_at(self, *lines):
        text = text_of(*self.begin, *lines, ("lot", "s", 90))
        store = LoggedStore.recovered(text)
        self.assertEqual(store.log, text_of(*self.begin), lines)
        self.assertEqual((store.commits, list(store.rows("t")), store.following("s")), (2, [(4, (1, "x"))], 1))
        return store

    def goes_on(self, *lines):
        text = text_of(*self.begin, *lines)
        store = LoggedStore.recovered(text)
        self.assertEqual(store.log, text)
        return store

    def test_texts_that_are_no_log(self):
        for text in ("", "\n", "x", "x\n", "\n\n", "()\n", "(\n", "5\n", '"begin"\n', '("begin")\n', "%\n", "\u00e9\n", "\ud800",
                     '("commit" 1 1)\n', '("put" "t" 0 (1))\n', '("lot" "s" 8)\n', '("begin" 1)\r\n', "(" * 5000 + "\n", "1" * 5000):
            for kind in KINDS:
                store = kind.recovered(text)
                self.assertTrue(store == Store())
                self.assertEqual((store.log, store.commits), ("", 0))
                store.begin()
                store.commit()
                self.assertEqual((store.log, store.commits), (text_of(*commit(1)), 1))

    def test_other_forms(self):
        for line in ("", " ", "()", "x", '("none")', '("lot" "s")', '("lot" "s" 8 8)', '("lot" "s" yes)', '("lot" "s" "8")',
                     '("lot" "S" 8)', '("lot" ("s") 8)', '("lot" "s" -)', '("begin" 3) ', ' ("begin" 3)', '("begin")', '("begin" yes)',
                     '("begin" "3")', '("begin" 3 3)', '(("begin") 3)', '("sequence" ("r" 1 0))', '("sequence" ("r" 1))',
                     '("sequence" "r" 1 1)', '("sequence" ("R" 1 1))', '("lot" "s" 1' + "0" * 31 + ")", '("lot" "s" 08)'):
            self.ends_at(line)
        for line in (("sequence", ("r", 1, 1), 1), ("none", ("r", 1, 1)), ("none", "s", 8), ("lot", "s", 8, None), ("none", 3)):
            self.ends_at(line)

    def test_sequences_and_lots(self):
        self.ends_at(("sequence", S))
        self.ends_at(("sequence", ("t", 1, 1)))
        self.ends_at(("sequence", ("v", 1, 1)))
        self.ends_at(("lot", "r", 8))
        self.ends_at(("lot", "t", 8))
        store = self.goes_on(("sequence", ("r", 1, -1)), ("lot", "r", 10 ** 30), ("lot", "s", -5), ("lot", "s", -6))
        self.assertEqual((store.following("r"), store.following("s")), (10 ** 30 - 1, -5))
        # The word of a sequence is there for what is made behind it.
        self.ends_at(*commit(3, ("make", (("table", table("s", "a")),))))

    def test_numbers_of_commits(self):
        for n in (0, 1, 2, 4, -1, 10 ** 40):
            self.ends_at(*commit(n))
        self.goes_on(*commit(3), *commit(4))
        first = commit(1)
        total = read_tree(first[-1])[2]
        self.assertEqual(LoggedStore.recovered(text_of(first[0], ("commit", True, total))).log, "")
        for n in (0, 1, 7, 10 ** 40):
            store = LoggedStore.recovered(text_of(*commit(n), *commit(n + 1), *commit(n + 1)))
            self.assertEqual((store.commits, store.log), (n + 1, text_of(*commit(n), *commit(n + 1))))
        self.assertEqual(LoggedStore.recovered(text_of(*commit(-1))).log, "")
        lines = commit(3)
        self.ends_at(lines[0], lines[1].replace("3", "4", 1))
        self.ends_at(lines[0], lines[1].replace(" 3 ", " yes "))

    def test_sums(self):
        lines = commit(3, ("take", "t", 4))
        total = read_tree(lines[-1])[2]
        for wrong in (total + 1, -total, total + 1000000007, 0, True, None, str(total)):
            self.ends_at(*lines[:-1], ("commit", 3, wrong))
        self.ends_at(*lines[:-1], ("commit", 3))
        # A wrong end is no deed, whatever the sum of all says.
        wrong = lines[:-1] + [write_tree(("commit", 3, total + 1))]
        self.ends_at(*wrong, ("commit", 3, checksum(wrong)))
        self.ends_at(*lines[:-1], ("commit", 3, total, total))

    def test_deeds_that_cannot_be_done(self):
        row = (1, "x")
        for deed in (
            ("put", "t", 4, row), ("put", "z", 5, row), ("put", "v", 5, (1,)), ("put", "t", -1, row), ("put", "t", True, row),
            ("put", "t", None, row), ("put", "t", 5, (1,)), ("put", "t", 5, (1, "x", 1)), ("put", "t", 5, ("x", "x")),
            ("put", "t", 5, (1, 1)), ("put", "t", 5, (True, "x")), ("put", "t", 5, (10 ** 31, "x")), ("put", "t", 5, (1, "x" * 41)),
            ("put", "t", 5, ((), "x")), ("put", "t", 5, "ab"), ("put", "t", 5), ("put", "t", 5, row, 1), ("change", "t", 5, row),
            ("change", "t", 4, (1,)), ("change", "z", 4, row), ("change", "t", "4", row), ("change", "t", 4), ("take", "t", 5),
            ("take", "t", 4, row), ("take", "v", 4), ("take", "t"), ("make", ()), ("make", 5), ("make",), ("make", (("table", T),)),
            ("make", (("table", table("w", "a", "a")),)), ("make", (("table", ("w",)),)), ("make", (("sequence", ("q", 1, 1)),)),
            ("make", (("program", procedure("t")),)), ("make", ("table", T)), ("drop", ()), ("drop", ("z",)), ("drop", ("s",)),
            ("drop", ("t",)), ("drop", ("v", "t")), ("drop", "v"), ("drop", ("v", "v")), ("number", "s", 1), ("mark", 0), ("undo", 0),
            ("free", 0), ("sequence", ("r", 1, 1)), ("lot", "s", 8), ("begin", 3), ("begin", 4), ("none",), (), 5, ("put",), (5,),
            ("none", ("v",)), ("take", ("v",)), ("none", (("table", table("w", "a")),)), ("none", "t", 4, row), ("none", "t", 4),
        ):
            self.ends_at(*commit(3, deed))
            self.ends_at(*commit(3, ("put", "t", 77, row), ("make", (("table", table("w", "a")),)), deed))
            self.ends_at(*commit(3, ("put", "t", 77, row), deed)[:-1])
        texts = ("make", (("table", table("w", column("a", "text"), column("b", "text"))),))
        self.ends_at(*commit(3, texts, ("put", "w", 5, "ab")))

    def test_deeds_that_can_be_done(self):
        store = self.goes_on(*commit(3, ("take", "t", 4), ("put", "t", 4, (None, None)), ("put", "t", 10 ** 40, (1, "x")),
                                     ("change", "t", 4, (5, "")), ("drop", ("v",)), ("make", (("view", view("v", "t", ("b",))),))))
        self.assertEqual(list(store.rows("t")), [(4, (5, "")), (10 ** 40, (1, "x"))])
        store.begin()
        store.put("t", ())
        self.assertEqual(list(store.rows("t"))[-1][0], 10 ** 40 + 1)

    def test_keys_and_references_are_not_asked(self):
        t = table("w", column("a", "int", False), keys=(("a",),), checks=(("c", equal(col("a"), 1)),),
                  references=(("r", ("a",), "w", "keep", False),))
        store = self.goes_on(*commit(3, ("make", (("table", t),)), ("put", "w", 5, (2,)), ("put", "w", 6, (2,)), ("put", "w", 7, (None,))))
        self.has_rows(store, "w", (2,), (2,), (None,))

    def test_row_numbers_of_what_does_not_count(self):
        lines = commit(3, ("put", "t", 77, (1, "x")))
        store = self.ends_at(*lines[:-1], ("commit", 3, 5))
        store.begin()
        store.put("t", ())
        self.assertEqual(list(store.rows("t"))[-1][0], 5)
        store = self.goes_on(*commit(3, ("put", "t", 77, (1, "x")), ("take", "t", 77)))
        store.begin()
        store.put("t", ())
        self.assertEqual(list(store.rows("t"))[-1][0], 78)

    def test_lines_forty_deep_with_many_parts(self):
        deep = equal(1, 1)
        for _ in range(22):
            deep = ("not", deep)
        checks = (("c", deep),)
        made = ("make", (("table", table("w", "a", checks=checks)), ("table", table("x", "a", checks=checks))))
        store = self.goes_on(*commit(3, made))
        self.assertEqual(store.tables, ("t", "w", "x"))
        many = tuple(("program", procedure("p" + a + b, *[("look",)] * 90)) for a in "abc" for b in "abc")
        store = self.goes_on(*commit(3, ("make", many)))
        self.assertEqual(len(store.programs), 9)
        self.ends_at("(" * 41 + ")" * 41)
        self.ends_at(*commit(3, ("make", (("table", table("w", "a", checks=(("c", ("not", deep)), ("d", ("not", ("not", deep))))),),)))[:1] + ["("])


class CheckpointTest(StoreTest):
    def test_its_lines(self):
        store = full_log()
        store.begin()
        # Words in another order than they are made in.
        store.make(*programs(procedure("q"), procedure("a")), ("view", view("b", "v", ("a",))), ("table", table("c", "x")))
        store.put("c", ())
        store.put("t", sets(a=77))
        store.commit()
        things = (
            ("table", store.thing("c")), ("table", store.thing("t")), ("view", store.thing("b")), ("view", store.thing("v")),
            ("program", store.thing("a")), ("program", store.thing("q")))
        rows = [("put", word, n, row) for word in ("c", "t") for n, row in store.rows(word)]
        lines = [('sequence', ("r", -1, -5)), ("sequence", S), ("lot", "r", -36), ("lot", "s", 8), *commit(5, ("make", things), *rows)]
        log = store.checkpoint()
        self.assertEqual(log, text_of(*lines))
        self.assertEqual(store.log, log)
        again = LoggedStore.recovered(log)
        self.assertTrue(again == store)
        self.assertEqual((again.commits, again.log, again.following("s")), (5, log, 9))
        self.assertEqual(store.following("s"), 5)

    def test_followed_by_commits(self):
        store = full_log()
        log = store.checkpoint()
        store.begin()
        for _ in range(5):
            store.number("s")
        store.put("t", sets(a=70))
        store.commit()
        self.assertEqual(store.log, log + text_of(("lot", "s", 16), *commit(5, ("put", "t", 5, (70, None)))))
        again = LoggedStore.recovered(store.log)
        self.assertTrue(again == store)
        self.assertEqual(again.commits, 5)
        self.assertEqual(store.checkpoint(), store.log)

    def test_row_numbers_behind_it(self):
        store = LoggedStore.of(("table", T))
        store.begin()
        for _ in range(3):
            store.put("t", ())
        store.commit()
        store.begin()
        store.take("t", TRUE)
        store.put("t", ())
        store.take("t", TRUE)
        store.commit()
        again = LoggedStore.recovered(store.log)
        again.begin()
        again.put("t", ())
        self.assertEqual(list(again.rows("t")), [(4, (None, None))])
        again = LoggedStore.recovered(store.checkpoint())
        again.begin()
        again.put("t", ())
        self.assertEqual(list(again.rows("t")), [(0, (None, None))])

    def test_of_nothing(self):
        store = LoggedStore()
        self.assertEqual(store.checkpoint(), text_of(*commit(0)))
        self.assertEqual(store.commits, 0)
        store.add_sequence(S)
        store.begin()
        store.commit()
        self.assertEqual(store.log, text_of(*commit(0), ("sequence", S), *commit(1)))
        self.assertEqual(LoggedStore.recovered(store.log).commits, 1)
        self.assertEqual(store.checkpoint(), text_of(("sequence", S), *commit(1)))

    def test_errors(self):
        store = LoggedStore.of(("table", T))
        store.begin()
        self.fails(InTransaction, (), store.checkpoint)
        store.core.standing = True
        self.fails(Busy, (), store.checkpoint)


    def test_of_a_recovered_log(self):
        store = full_log()
        again = LoggedStore.recovered(store.log)
        self.assertEqual(again.checkpoint(), store.checkpoint())
        self.assertIn('("lot" "s" 8)', again.log)


class JoinedTest(StoreTest):
    def test_joined(self):
        store = full_log()
        old = store.log
        new = store.checkpoint()
        first = new.index('("commit"')
        end = new.index("\n", first) + 1
        self.assertEqual(end, len(new))
        for cut in range(len(new)):
            self.assertEqual(LoggedStore.joined(old, new[:cut]), old)
        self.assertEqual(LoggedStore.joined(old=old, new=new), new)
        store.begin()
        store.put("t", sets(a=71))
        store.commit()
        for cut in range(len(new), len(store.log) + 1):
            self.assertEqual(LoggedStore.joined(old, store.log[:cut]), store.log[:cut])
        self.assertEqual(LoggedTimedStore.joined(old, new + "x"), new + "x")

    def test_new_logs_that_are_wrong(self):
        for new in ("", "x", text_of(("sequence", S)), text_of(("sequence", S), ("sequence", S), *commit(1)), text_of(*commit(1)[:-1]),
                    text_of(*commit(1)[:-1], ("commit", 1, 5)), text_of(*commit(1, ("put", "t", 0, ()))), text_of("", *commit(1))):
            self.assertEqual(LoggedStore.joined("old", new), "old")
        for new in (text_of(*commit(0)), text_of(("sequence", S), ("lot", "s", 5), *commit(7)) + "x", text_of(*commit(1), *commit(5))):
            self.assertEqual(LoggedStore.joined("old", new), new)
