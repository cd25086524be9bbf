"""Tests of [6] and [11]: sizes and evicting misses."""

import unittest

from hitlog.logs import evicting_misses, sizes
from tests import oracle

MISSES = [("miss", "a"), ("miss", "b"), ("miss", "c"), ("miss", "d")]


class Sizes(unittest.TestCase):
    def test_empty_log(self):
        self.assertEqual(sizes(1, (), []), [0])
        self.assertEqual(sizes(40, (), []), [0])
        self.assertEqual(sizes(3, ("a",), []), [1])
        self.assertEqual(sizes(2, ("b", "a"), []), [2])

    def test_capacity_one(self):
        self.assertEqual(sizes(1, (), MISSES), [0, 1, 1, 1, 1])
        self.assertEqual(sizes(1, ("x",), MISSES), [1, 1, 1, 1, 1])

    def test_full_and_partial_start(self):
        self.assertEqual(sizes(3, ("x", "y", "z"), MISSES), [3, 3, 3, 3, 3])
        self.assertEqual(sizes(3, ("x", "y"), MISSES), [2, 3, 3, 3, 3])
        self.assertEqual(sizes(3, ("x",), MISSES), [1, 2, 3, 3, 3])

    def test_capacity_greater_than_the_number_of_pages(self):
        self.assertEqual(sizes(40, (), MISSES), [0, 1, 2, 3, 4])
        self.assertEqual(sizes(5, ("x",), MISSES), [1, 2, 3, 4, 5])

    def test_hits_add_nothing(self):
        log = [("miss", "a"), ("hit", "a"), ("hit", "a"), ("miss", "b"), ("hit", "b")]
        self.assertEqual(sizes(5, (), log), [0, 1, 1, 1, 2, 2])

    def test_logs_that_are_not_possible(self):
        self.assertEqual(sizes(2, (), [("hit", "a"), ("hit", "b"), ("miss", "a")]), [0, 0, 0, 1])
        self.assertEqual(sizes(3, (), [("miss", "a")] * 5), [0, 1, 2, 3, 3, 3])
        self.assertEqual(sizes(3, ("a",), [("miss", "a")] * 3), [1, 2, 3, 3])

    def test_all_small_cases(self):
        for capacity, start, log in oracle.small_cases(4):
            self.assertEqual(sizes(capacity, start, log), oracle.sizes(capacity, start, log), (capacity, start, log))

    def test_the_sizes_are_integers(self):
        for value in sizes(2, ("x",), MISSES):
            self.assertIs(type(value), int)

    def test_capacities_beyond_the_limit(self):
        self.assertEqual(sizes(41, (), MISSES), [0, 1, 2, 3, 4])
        self.assertEqual(sizes(10**45, ("x",), MISSES), [1, 2, 3, 4, 5])


class EvictingMisses(unittest.TestCase):
    def test_empty_log(self):
        self.assertEqual(evicting_misses(1, (), []), [])
        self.assertEqual(evicting_misses(1, ("a",), []), [])

    def test_capacity_one(self):
        self.assertEqual(evicting_misses(1, (), MISSES), [1, 2, 3])
        self.assertEqual(evicting_misses(1, ("x",), MISSES), [0, 1, 2, 3])

    def test_the_miss_that_fills_the_shelf_evicts_nothing(self):
        self.assertEqual(evicting_misses(2, (), MISSES), [2, 3])
        self.assertEqual(evicting_misses(2, ("x",), MISSES), [1, 2, 3])
        self.assertEqual(evicting_misses(2, ("y", "x"), MISSES), [0, 1, 2, 3])
        self.assertEqual(evicting_misses(4, (), MISSES), [])

    def test_capacity_greater_than_the_number_of_pages(self):
        self.assertEqual(evicting_misses(40, (), MISSES), [])
        self.assertEqual(evicting_misses(10**45, ("x",), MISSES), [])

    def test_hits_are_no_misses(self):
        log = [("miss", "a"), ("hit", "a"), ("miss", "b"), ("hit", "b"), ("miss", "a"), ("hit", "a")]
        self.assertEqual(evicting_misses(1, (), log), [2, 4])
        self.assertEqual(evicting_misses(1, ("x",), [("hit", "x")] * 3), [])

    def test_logs_that_are_not_possible(self):
        self.assertEqual(evicting_misses(2, (), [("hit", "a"), ("miss", "a"), ("miss", "a"), ("miss", "a")]), [3])
        self.assertEqual(evicting_misses(1, ("a",), [("miss", "a"), ("hit", "b"), ("miss", "a")]), [0, 2])

    def test_all_small_cases(self):
        for capacity, start, log in oracle.small_cases(4):
            expected = oracle.evicting_misses(capacity, start, log)
            self.assertEqual(evicting_misses(capacity, start, log), expected, (capacity, start, log))


if __name__ == "__main__":
    unittest.main()
