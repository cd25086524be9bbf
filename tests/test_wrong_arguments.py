"""Tests of [3] and of the errors in [11], [12] and [13]: each error alone, and which one comes first."""

import unittest
from itertools import product

from hitlog.errors import InvalidCapacity, InvalidHistory, InvalidLog, InvalidShelf
from hitlog.gaps import gaps, held_counts
from hitlog.logs import evicting_misses, replay, sizes
from tests.values import WRONG_CAPACITIES, WRONG_LOGS, WRONG_SHELVES

LOG = [("miss", "a"), ("miss", "b"), ("hit", "a")]


def replay_without_evictions(capacity, start, log):
    return replay(capacity, start, log, [])


WITH_CAPACITY = [sizes, evicting_misses, held_counts, replay_without_evictions]

# Few wrong values of each argument, for all combinations of several wrong arguments.
SOME_CAPACITIES = [0, -3, True, "2", None]
SOME_SHELVES = [["a"], ("a", "a"), ("A",), None, "ab"]
SOME_LOGS = [(), [("out", "a")], [["miss", "a"]], None, "-a"]
SOME_HISTORIES = [["a"], (), None, ["A"], "a"]


class Wrong(unittest.TestCase):
    def expect(self, error, function, *arguments):
        with self.assertRaises(error) as caught:
            function(*arguments)
        self.assertIs(type(caught.exception), error)


class OneWrongArgument(Wrong):
    def test_capacity(self):
        for function in WITH_CAPACITY:
            for capacity in WRONG_CAPACITIES:
                with self.subTest(function=function, capacity=capacity):
                    self.expect(InvalidCapacity, function, capacity, (), LOG)

    def test_shelf(self):
        for function in WITH_CAPACITY:
            for start in WRONG_SHELVES:
                with self.subTest(function=function, start=start):
                    self.expect(InvalidShelf, function, 40, start, LOG)
        for start in WRONG_SHELVES:
            with self.subTest(start=start):
                self.expect(InvalidShelf, gaps, start, LOG)

    def test_more_pages_than_the_capacity(self):
        for function in WITH_CAPACITY:
            self.expect(InvalidShelf, function, 1, ("a", "b"), [])
            self.expect(InvalidShelf, function, 2, ("a", "b", "c"), LOG)
            self.expect(InvalidShelf, function, 40, tuple(a + b for a in "abcdefg" for b in "abcdef")[:41], LOG)

    def test_as_many_pages_as_the_capacity(self):
        self.assertEqual(sizes(2, ("a", "b"), []), [2])
        self.assertEqual(evicting_misses(2, ("a", "b"), []), [])
        self.assertEqual(held_counts(2, ("a", "b"), []), [])
        self.assertEqual(replay(2, ("a", "b"), [], []), [("a", "b")])

    def test_gaps_know_no_capacity(self):
        start = tuple(one + two for one in "abcdefghij" for two in "abcdefghij")
        self.assertEqual(len(gaps(start, [])), 100)

    def test_log(self):
        for function in WITH_CAPACITY:
            for log in WRONG_LOGS:
                with self.subTest(function=function, log=log):
                    self.expect(InvalidLog, function, 2, ("a",), log)
        for log in WRONG_LOGS:
            with self.subTest(log=log):
                self.expect(InvalidLog, gaps, ("a",), log)

    def test_an_invalid_event_at_any_index_of_a_long_log(self):
        right = [("miss", "a"), ("miss", "b")] * 65
        for index in range(130):
            for event in (("out", "a"), ("miss", "A"), ["miss", "a"], ("miss",), ("miss", "a", "a"), None):
                log = right[:index] + [event] + right[index + 1:]
                for function in WITH_CAPACITY:
                    self.expect(InvalidLog, function, 1, (), log)
                self.expect(InvalidLog, gaps, (), log)

    def test_a_log_after_an_impossible_event(self):
        self.expect(InvalidLog, replay, 2, (), [("hit", "a"), None], [])

    def test_history(self):
        for evicted in SOME_HISTORIES:
            self.expect(InvalidHistory, replay, 2, (), LOG, evicted)


class SeveralWrongArguments(Wrong):
    def check(self, function, choices):
        """Call with all combinations of the choices (error, value); the first error must come."""
        for chosen in product(*choices):
            named = [error for error, value in chosen if error is not None]
            if named:
                with self.subTest(function=function, chosen=chosen):
                    self.expect(named[0], function, *[value for error, value in chosen])

    def choices(self, right, error, wrong):
        return [(None, right)] + [(error, value) for value in wrong]

    def test_capacity_shelf_log(self):
        choices = [
            self.choices(2, InvalidCapacity, SOME_CAPACITIES),
            self.choices(("a",), InvalidShelf, SOME_SHELVES + [("a", "b", "c")]),
            self.choices(LOG, InvalidLog, SOME_LOGS),
        ]
        for function in (sizes, evicting_misses, held_counts):
            self.check(function, choices)

    def test_capacity_shelf_log_history(self):
        choices = [
            self.choices(2, InvalidCapacity, SOME_CAPACITIES),
            self.choices((), InvalidShelf, SOME_SHELVES + [("a", "b", "c")]),
            self.choices(LOG, InvalidLog, SOME_LOGS),
            self.choices([], InvalidHistory, SOME_HISTORIES),
        ]
        self.check(replay, choices)

    def test_shelf_log(self):
        choices = [
            self.choices(("a",), InvalidShelf, SOME_SHELVES),
            self.choices(LOG, InvalidLog, SOME_LOGS),
        ]
        self.check(gaps, choices)

    def test_too_many_pages_come_before_the_log(self):
        for function in WITH_CAPACITY:
            self.expect(InvalidShelf, function, 1, ("a", "b"), [("out", "a")])
            self.expect(InvalidCapacity, function, 0, ("a", "b"), [("out", "a")])


if __name__ == "__main__":
    unittest.main()
