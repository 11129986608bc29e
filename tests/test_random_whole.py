"""Points 13, 21 to 27, 30, 41 to 52 and 55: calls that are put together at random, against a plain reading of all of it."""

import unittest

from deedstore.stores import Store
from tests import test_random
from tests.build import procedure, programs
from tests.makers import StaleMaker
from tests.plain_store import Whole

SEEDS = (0, 200)


class WholeTest(unittest.TestCase):
    def told(self, store, word):
        """How a call ends, as Whole tells it."""
        found = test_random.outcome_of(store, word)
        if found[0] == "stale":
            return ("stale", found[2], found[3], found[1])
        if found[0] == "raised":
            return ("raised", found[1:7], list(found[-1]))
        return ("ended", found[2], list(found[-1]))

    def check(self, store, seed, words):
        """Calls on the store and on the plain one; words tells how they end."""
        store.begin()
        whole = Whole(store, 300)
        for word in "qppqp":
            found = self.told(store, word)
            self.assertEqual(found, whole.call(word), (seed, word))
            self.assertEqual(list(store.journal), whole.journal, seed)
            self.assertEqual(store.programs, tuple(sorted(whole.made)))
            for table in store.tables + store.views:
                self.assertEqual(list(store.rows(table)), whole.shown(table), seed)
            self.assertEqual({s: store.following(s) for s in store.sequences}, whole.next)
            key = found[1][0] if found[0] == "raised" else found[0]
            words[key] = words.get(key, 0) + 1

    def test_calls(self):
        words = {}
        for seed in range(*SEEDS):
            self.check(test_random.HistoryTest().store(seed), seed, words)
        self.assertGreater(len(words), 12, words)

    def test_stale_programs(self):
        words = {}
        for seed in range(*SEEDS):
            self.check(stale_store(seed), seed, words)
        self.assertGreater(words["stale"], 20, words)
        self.assertGreater(words["ended"], 50, words)


def stale_store(seed):
    """A store whose programs drop and make one another."""
    maker = StaleMaker(seed)
    # What is made again and dropped by a procedure that is named by a text alone.
    again = procedure("again", *[maker.random.choice((("drop", "made"), ("make", procedure("made")), ("make", procedure("made", ("do", "zz", ())))))
                                 for _ in range(maker.random.randrange(4))])
    return Store.of(*test_random.HistoryTest().things(maker), *programs(procedure("made"), again))


if __name__ == "__main__":
    unittest.main()
