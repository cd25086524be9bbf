"""Tests of [27]: how many histories there are, and in which order."""

import time
import unittest
from random import Random

from hitlog.counting import count_histories, nth_history, rank_history
from hitlog.errors import (
    InvalidCapacity,
    InvalidHistory,
    InvalidIndex,
    InvalidLog,
    InvalidShelf,
    TooLarge,
)
from hitlog.possible import history
from tests import oracle
from tests.logs import NAMES, played_cases, played_log
from tests.values import NO_INTEGERS, ODD_VALUES, WRONG_PAGES, Refusing

IMPOSSIBLE = [[("hit", "z")], [("miss", "a"), ("miss", "a")], [("miss", "a"), ("miss", "b"), ("miss", "b")]]


def misses(pages):
    return [("miss", page) for page in pages]


def all_histories(*case):
    return [nth_history(*case, index) for index in range(count_histories(*case))]


class Histories(unittest.TestCase):
    def test_no_eviction(self):
        for case in ((1, (), []), (2, ("a",), [("hit", "a"), ("miss", "b")]), (40, (), misses(NAMES[:40]))):
            self.assertEqual(all_histories(*case), [[]])
            self.assertEqual(rank_history(*case, []), 0)

    def test_capacity_one(self):
        self.assertEqual(all_histories(1, ("x",), misses("aba")), [["x", "a", "b"]])

    def test_none(self):
        for log in IMPOSSIBLE:
            self.assertEqual(count_histories(2, (), log), 0)

    def test_alphabetical_order(self):
        self.assertEqual(all_histories(2, ("b", "a"), misses("c")), [["a"], ["b"]])
        self.assertEqual(all_histories(3, ("b", "ab", "a"), misses("c")), [["a"], ["ab"], ["b"]])
        self.assertEqual(all_histories(2, ("z", "y"), misses("ab")), [
            ["y", "a"],
            ["y", "z"],
            ["z", "a"],
            ["z", "y"],
        ])

    def test_a_page_that_must_go(self):
        self.assertEqual(all_histories(2, (), misses("abca")), [["a", "b"], ["a", "c"]])
        self.assertEqual(all_histories(2, (), misses("abcda"))[:2], [["a", "b", "c"], ["a", "b", "d"]])
        self.assertEqual(count_histories(2, (), misses("abcda")), 6)

    def test_a_page_that_must_stay(self):
        log = misses("abc") + [("hit", "b")] + misses("d")
        self.assertEqual(all_histories(2, (), log), [["a", "b"], ["a", "c"]])

    def test_a_page_that_goes_twice(self):
        self.assertEqual(all_histories(1, (), misses("abab")), [["a", "b", "a"]])
        self.assertIn(["a", "b", "a"], all_histories(2, (), misses("abcad")))

    def test_a_page_of_the_start_that_is_never_requested(self):
        self.assertEqual(all_histories(2, ("x",), misses("ab")), [["a"], ["x"]])

    def test_the_first_and_the_last_index(self):
        case = (3, ("c", "b", "a"), misses("de"))
        self.assertEqual(count_histories(*case), 9)
        self.assertEqual(nth_history(*case, 0), ["a", "b"])
        self.assertEqual(nth_history(*case, 8), ["c", "d"])
        self.assertEqual(rank_history(*case, ["a", "b"]), 0)
        self.assertEqual(rank_history(*case, ["c", "d"]), 8)


class AllHistories(unittest.TestCase):
    def test_all_small_cases(self):
        for case in oracle.small_cases(4):
            expected = sorted([evicted for evicted, _ in oracle.replays(*case)])
            self.assertEqual(count_histories(*case), len(expected), case)
            if expected:
                self.check(case, expected)

    def check(self, case, expected):
        self.assertEqual(all_histories(*case), expected, case)
        ranks = [rank_history(*case, evicted) for evicted in expected]
        self.assertEqual(ranks, list(range(len(expected))), case)

    def test_longer_logs_of_two_pages(self):
        for case in oracle.small_cases(6, ("a", "b")):
            if case[0] < 3:
                expected = sorted([evicted for evicted, _ in oracle.replays(*case)])
                self.assertEqual(count_histories(*case), len(expected), case)
                if expected:
                    self.check(case, expected)

    def test_longer_logs(self):
        for capacity, start, log, evicted in played_cases():
            short = [e for e in range(len(log) + 1) if len(oracle.evicting_misses(capacity, start, log[:e])) <= 16][-1]
            case = (capacity, start, log[:short])
            gone = evicted[:len(oracle.evicting_misses(*case))]
            many = count_histories(*case)
            self.assertEqual(many, oracle.many_histories(*case), case)
            self.assertEqual(nth_history(*case, rank_history(*case, gone)), gone)
            self.assertEqual(len({tuple(nth_history(*case, index)) for index in range(min(many, 20))}), min(many, 20))


class LargeLogs(unittest.TestCase):
    def test_sixteen_evicting_misses(self):
        start = tuple(NAMES[100:140])
        log = misses(NAMES[:16])
        self.assertEqual(count_histories(40, start, log), 40**16)
        self.assertEqual(nth_history(40, start, log, 0), [NAMES[100]] + NAMES[:15])
        self.assertEqual(rank_history(40, start, log, nth_history(40, start, log, 40**16 - 1)), 40**16 - 1)
        self.assertEqual(count_histories(1, ("x",), log), 1)
        self.assertEqual(count_histories(2, ("x", "y"), log), 2**16)

    def test_held_pages_are_no_choice(self):
        start = tuple(NAMES[100:140])
        log = misses(NAMES[:16]) + [("hit", page) for page in start[:30]]
        self.assertEqual(count_histories(40, start, log), 10**16)

    def test_pages_that_must_go(self):
        start = tuple(NAMES[100:140])
        for released in (1, 5, 8, 11, 15):
            log = misses(NAMES[:16 - released]) + misses(start[20 - released:20])
            self.reverse((40, start, log))

    def test_130_events(self):
        for seed in range(20):
            capacity = (1, 2, 10, 39, 40)[seed % 5]
            start = tuple(NAMES[:capacity])
            log, evicted = played_log(seed, capacity, start, NAMES[:capacity + 1 + seed], 16, 0)
            hits = [("hit", page) for page in start if page not in evicted]
            case = (capacity, start, log + (hits * 130)[:114])
            self.assertEqual(nth_history(*case, rank_history(*case, evicted)), evicted)
            self.reverse(case)

    def reverse(self, case):
        random = Random(27)
        many = count_histories(*case)
        indices = sorted({0, many // 2, many - 1} | {random.randrange(many) for _ in range(3)})
        found = [nth_history(*case, index) for index in indices]
        self.assertEqual(found, sorted(found))
        self.assertEqual([rank_history(*case, evicted) for evicted in found], indices)
        self.assertEqual(nth_history(*case, rank_history(*case, history(*case))), history(*case))

    def test_without_delay(self):
        start = tuple(NAMES[100:140])
        begun = time.perf_counter()
        for released in range(16):
            log = misses(NAMES[:16 - released]) + misses(start[:released])
            many = count_histories(40, start, log)
            nth_history(40, start, log, many - 1)
        self.assertLess(time.perf_counter() - begun, 30)

    def test_a_capacity_that_has_many_digits(self):
        self.assertEqual(all_histories(10**44, ("x",), misses("abc")), [[]])


class TooManyMisses(unittest.TestCase):
    def expect(self, function, *arguments):
        with self.assertRaises(TooLarge) as caught:
            function(*arguments)
        self.assertIs(type(caught.exception), TooLarge)
        self.assertEqual(caught.exception.limit, 16)
        self.assertIs(type(caught.exception.limit), int)

    def test_sixteen_and_seventeen(self):
        for capacity in (1, 2, 3, 40):
            log = misses(NAMES[:capacity + 16])
            self.assertEqual(count_histories(capacity, (), log), capacity**16)
            self.assertEqual(len(nth_history(capacity, (), log, capacity**16 - 1)), 16)
            longer = misses(NAMES[:capacity + 17])
            self.expect(count_histories, capacity, (), longer)
            self.expect(nth_history, capacity, (), longer, 0)
            self.expect(rank_history, capacity, (), longer, NAMES[:17])

    def test_hits_do_not_count(self):
        log = misses(NAMES[:17]) + [("hit", NAMES[16])] * 113
        self.assertEqual(count_histories(1, (), log), 1)
        self.expect(count_histories, 1, (), log + misses("a"))

    def test_logs_that_are_not_possible(self):
        log = [("hit", "z")] + misses("ab") + misses(["a"] * 16)
        self.assertEqual(count_histories(2, (), log[:-1] + [("hit", "a")]), 0)
        self.assertEqual(count_histories(2, ("x",), log[:-1]), 0)
        for start in (("x",), ("x", "y")):
            self.expect(count_histories, 2, start, log)
            self.expect(nth_history, 2, start, log, 0)
            for value in ODD_VALUES + [[], ["a"] * 16, ["a"] * 17, Refusing()]:
                self.expect(rank_history, 2, start, log, value)

    def test_too_large_comes_after_the_other_arguments(self):
        log = misses(NAMES[:130])
        for function, more in ((count_histories, ()), (nth_history, (0,)), (rank_history, ([],))):
            for error, arguments in (
                (InvalidCapacity, (0, (), log)),
                (InvalidCapacity, (True, ["a"], log)),
                (InvalidShelf, (1, ("a", "b"), log)),
                (InvalidShelf, (2, ["a"], log)),
                (InvalidLog, (2, (), log + [None])),
            ):
                with self.assertRaises(error) as caught:
                    function(*arguments, *more)
                self.assertIs(type(caught.exception), error)

    def test_between_the_two_conditions_of_the_index(self):
        log = misses(NAMES[:130])
        for index in NO_INTEGERS + [-1, -(10**44)]:
            with self.assertRaises(InvalidIndex) as caught:
                nth_history(2, (), log, index)
            self.assertIs(type(caught.exception), InvalidIndex)
        for index in (0, 1, 10**44):
            self.expect(nth_history, 2, (), log, index)


class WrongArguments(unittest.TestCase):
    def expect(self, error, function, *arguments):
        with self.assertRaises(error) as caught:
            function(*arguments)
        self.assertIs(type(caught.exception), error)

    def test_values_that_are_no_index(self):
        for index in NO_INTEGERS + [-1, -2, -(10**44), Refusing()]:
            for log in [misses("abcd"), []] + IMPOSSIBLE:
                self.expect(InvalidIndex, nth_history, 2, (), log, index)

    def test_an_index_that_is_too_large(self):
        for index in (4, 5, 10**44):
            self.expect(InvalidIndex, nth_history, 2, (), misses("abcd"), index)
        self.expect(InvalidIndex, nth_history, 2, (), [], 1)
        for log in IMPOSSIBLE:
            for index in (0, 1, 10**44):
                self.expect(InvalidIndex, nth_history, 2, (), log, index)

    def test_values_that_are_no_history(self):
        log = misses("abcd")
        self.assertEqual(all_histories(2, (), log), [["a", "b"], ["a", "c"], ["b", "a"], ["b", "c"]])
        wrong = [[], ["a"], ["a", "a"], ["c", "a"], ["a", "d"], ["a", "b", "c"], ["z", "a"], ("a", "b"), "ab", ["ab"]]
        wrong += ODD_VALUES + [["a", page] for page in WRONG_PAGES] + [[page, "b"] for page in WRONG_PAGES]
        for value in wrong + [Refusing(), [Refusing(), "b"]]:
            self.expect(InvalidHistory, rank_history, 2, (), log, value)

    def test_any_value_for_a_log_that_is_not_possible(self):
        for log in IMPOSSIBLE:
            for value in ODD_VALUES + [[], ["a"], ["b"], ["a", "b"]]:
                self.expect(InvalidHistory, rank_history, 2, (), log, value)


if __name__ == "__main__":
    unittest.main()
