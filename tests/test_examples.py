"""The examples of the document, sections 4 and 5, with exactly the value shown."""

import unittest

from hitlog.gaps import gaps, held_counts
from hitlog.logs import evicting_misses, is_log, replay, sizes


class Examples(unittest.TestCase):
    def check(self, value, shown):
        self.assertEqual(repr(value), shown)

    def test_is_log(self):
        self.check(is_log([("hit", "a"), ("out", "b")]), "False")

    def test_sizes(self):
        value = sizes(2, (), [("miss", "a"), ("miss", "b"), ("miss", "c"), ("hit", "a")])
        self.check(value, "[0, 1, 2, 2, 2]")

    def test_evicting_misses(self):
        value = evicting_misses(2, (), [("miss", "a"), ("miss", "b"), ("miss", "c"), ("hit", "a")])
        self.check(value, "[2]")

    def test_replay(self):
        value = replay(2, (), [("miss", "a"), ("miss", "b"), ("miss", "c"), ("hit", "a")], ["b"])
        self.check(value, "[(), ('a',), ('a', 'b'), ('a', 'c'), ('a', 'c')]")

    def test_gaps(self):
        value = gaps((), [("miss", "a"), ("miss", "b"), ("miss", "c"), ("hit", "a")])
        self.check(
            value,
            "[('a', 0, 3, 'held'), ('b', 1, None, 'open'), ('c', 2, None, 'open'), ('a', 3, None, 'open')]",
        )

    def test_held_counts(self):
        value = held_counts(2, (), [("miss", "a"), ("miss", "b"), ("miss", "c"), ("hit", "a")])
        self.check(value, "[(2, 1)]")


if __name__ == "__main__":
    unittest.main()
