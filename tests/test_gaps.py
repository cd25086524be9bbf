"""Tests of [8] and [13]: gaps and the numbers of held ones."""

import unittest

from hitlog.gaps import gaps, held_counts
from tests import oracle


class Gaps(unittest.TestCase):
    def test_nothing(self):
        self.assertEqual(gaps((), []), [])

    def test_pages_of_the_start_that_are_never_requested(self):
        self.assertEqual(gaps(("b", "a"), []), [("b", -1, None, "open"), ("a", -1, None, "open")])
        self.assertEqual(
            gaps(("b", "a"), [("miss", "c")]),
            [("b", -1, None, "open"), ("a", -1, None, "open"), ("c", 0, None, "open")],
        )

    def test_a_page_of_the_start_that_is_hit(self):
        self.assertEqual(gaps(("a",), [("hit", "a")]), [("a", -1, 0, "held"), ("a", 0, None, "open")])
        self.assertEqual(
            gaps(("a",), [("miss", "b"), ("hit", "a")]),
            [("a", -1, 1, "held"), ("b", 0, None, "open"), ("a", 1, None, "open")],
        )

    def test_a_page_of_the_start_that_is_missed_again(self):
        self.assertEqual(
            gaps(("a",), [("miss", "b"), ("miss", "a")]),
            [("a", -1, 1, "released"), ("b", 0, None, "open"), ("a", 1, None, "open")],
        )

    def test_all_kinds_for_requested_pages(self):
        log = [("miss", "a"), ("miss", "b"), ("hit", "a"), ("miss", "b"), ("miss", "c")]
        self.assertEqual(
            gaps((), log),
            [
                ("a", 0, 2, "held"),
                ("b", 1, 3, "released"),
                ("a", 2, None, "open"),
                ("b", 3, None, "open"),
                ("c", 4, None, "open"),
            ],
        )

    def test_the_start_comes_first_in_its_own_order(self):
        log = [("hit", "b"), ("miss", "d"), ("miss", "a"), ("hit", "c")]
        self.assertEqual(
            gaps(("c", "a", "b"), log),
            [
                ("c", -1, 3, "held"),
                ("a", -1, 2, "released"),
                ("b", -1, 0, "held"),
                ("b", 0, None, "open"),
                ("d", 1, None, "open"),
                ("a", 2, None, "open"),
                ("c", 3, None, "open"),
            ],
        )

    def test_a_gap_ends_at_the_next_occurrence(self):
        log = [("miss", "a"), ("hit", "a"), ("hit", "a"), ("miss", "a")]
        self.assertEqual(
            gaps((), log),
            [("a", 0, 1, "held"), ("a", 1, 2, "held"), ("a", 2, 3, "released"), ("a", 3, None, "open")],
        )

    def test_logs_that_are_not_possible(self):
        self.assertEqual(gaps((), [("hit", "a")]), [("a", 0, None, "open")])
        self.assertEqual(gaps(("a",), [("miss", "a")]), [("a", -1, 0, "released"), ("a", 0, None, "open")])

    def test_a_start_of_any_number_of_pages(self):
        start = tuple(one + two for one in "abcdefgh" for two in "abcdefgh")
        self.assertEqual(gaps(start, []), [(page, -1, None, "open") for page in start])

    def test_all_small_cases(self):
        for log in oracle.small_logs(5):
            for start in oracle.STARTS:
                self.assertEqual(gaps(start, log), oracle.gaps(start, log), (start, log))

    def test_kinds_of_the_entries(self):
        for gap in gaps(("a",), [("hit", "a"), ("miss", "a")]):
            self.assertIs(type(gap), tuple)
            self.assertEqual(len(gap), 4)
            self.assertIs(type(gap[1]), int)
            self.assertIn(type(gap[2]), (int, type(None)))


class HeldCounts(unittest.TestCase):
    def test_nothing(self):
        self.assertEqual(held_counts(1, (), []), [])
        self.assertEqual(held_counts(1, ("a",), [("hit", "a")]), [])

    def test_misses_that_evict_nothing_are_left_out(self):
        log = [("miss", "a"), ("miss", "b"), ("hit", "a")]
        self.assertEqual(held_counts(2, (), log), [])
        self.assertEqual(held_counts(1, (), log), [(1, 1)])

    def test_only_held_gaps_count(self):
        log = [("miss", "c"), ("hit", "a"), ("miss", "b")]
        self.assertEqual(held_counts(2, ("a", "b"), log), [(0, 1), (2, 0)])

    def test_the_ends_of_a_gap_lie_outside(self):
        log = [("miss", "a"), ("hit", "a"), ("miss", "b"), ("hit", "b"), ("miss", "a")]
        self.assertEqual(held_counts(1, (), log), [(2, 0), (4, 0)])
        self.assertEqual(held_counts(1, ("x",), log), [(0, 0), (2, 0), (4, 0)])

    def test_gaps_of_the_start_hold_at_the_first_event(self):
        log = [("miss", "a"), ("hit", "x"), ("hit", "y"), ("miss", "b")]
        self.assertEqual(held_counts(3, ("x", "y", "z"), log), [(0, 2), (3, 0)])

    def test_several_gaps_at_once(self):
        log = [("miss", "d"), ("miss", "e"), ("hit", "a"), ("miss", "f"), ("hit", "b"), ("hit", "a")]
        self.assertEqual(held_counts(3, ("a", "b", "c"), log), [(0, 2), (1, 2), (3, 2)])

    def test_logs_that_are_not_possible(self):
        self.assertEqual(held_counts(2, ("x", "y"), [("miss", "a"), ("hit", "x"), ("hit", "y")]), [(0, 2)])
        self.assertEqual(held_counts(1, (), [("hit", "a"), ("miss", "b"), ("miss", "c"), ("hit", "a")]), [(2, 1)])
        self.assertEqual(held_counts(1, ("a",), [("miss", "a"), ("hit", "a")]), [(0, 0)])

    def test_all_small_cases(self):
        for capacity, start, log in oracle.small_cases(4):
            expected = oracle.held_counts(capacity, start, log)
            self.assertEqual(held_counts(capacity, start, log), expected, (capacity, start, log))

    def test_kinds_of_the_entries(self):
        counts = held_counts(1, ("a",), [("miss", "b"), ("hit", "a")])
        self.assertEqual(counts, [(0, 1)])
        for count in counts:
            self.assertEqual([type(count), type(count[0]), type(count[1])], [tuple, int, int])


if __name__ == "__main__":
    unittest.main()
