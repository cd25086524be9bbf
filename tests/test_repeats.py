"""Tests of [28]: how often a log can be repeated."""

import time
import unittest

from hitlog.errors import InvalidTimes
from hitlog.possible import is_possible
from hitlog.repeats import is_possible_repeated, most_repeats
from tests import oracle
from tests.logs import NAMES, large_cases, played_cases, turning_log
from tests.values import NO_INTEGERS, Refusing

MANY = 10**44
IMPOSSIBLE = [[("hit", "z")], [("miss", "a"), ("miss", "a")], [("miss", "a"), ("miss", "b"), ("miss", "b")]]


def misses(pages):
    return [("miss", page) for page in pages]


class MostRepeats(unittest.TestCase):
    def test_empty_log(self):
        self.assertIs(most_repeats(1, (), []), None)
        self.assertIs(most_repeats(40, ("b", "a"), []), None)

    def test_not_possible(self):
        for log in IMPOSSIBLE:
            self.assertEqual(most_repeats(2, (), log), 0)
        self.assertEqual(most_repeats(2, ("a", "b"), misses("a")), 0)

    def test_once(self):
        self.assertEqual(most_repeats(2, (), misses("ab")), 1)
        self.assertEqual(most_repeats(1, (), misses("a")), 1)
        self.assertEqual(most_repeats(1, ("x",), misses("a")), 1)
        self.assertEqual(most_repeats(40, (), misses(NAMES[:40])), 1)
        self.assertEqual(most_repeats(2, ("a", "b"), [("hit", "a"), ("miss", "c")]), 1)

    def test_any_number(self):
        self.assertIs(most_repeats(1, (), misses("ab")), None)
        self.assertIs(most_repeats(2, (), misses("abc")), None)
        self.assertIs(most_repeats(2, ("a",), [("hit", "a")]), None)
        self.assertIs(most_repeats(2, ("a",), [("hit", "a"), ("miss", "b"), ("miss", "c")]), None)
        self.assertIs(most_repeats(40, (), misses(NAMES[:41])), None)

    def test_the_first_repetition_needs_a_full_shelf(self):
        self.assertEqual(most_repeats(3, (), misses("abc")), 1)
        self.assertEqual(most_repeats(4, ("x",), misses("abc")), 1)
        self.assertIs(most_repeats(3, ("x",), misses("abc")), None)

    def test_large_logs(self):
        for pages in (2, 20, 40):
            self.assertIs(most_repeats(pages - 1, (), turning_log(pages, 120)), None)
        self.assertIs(most_repeats(40, (), turning_log(130)), None)
        self.assertEqual(most_repeats(129, (), turning_log(130)[:129]), 1)
        self.assertIs(most_repeats(128, (), turning_log(130)[:129]), None)


class IsPossibleRepeated(unittest.TestCase):
    def test_no_repetition_is_always_possible(self):
        for log in IMPOSSIBLE + [[], misses("a"), misses("ab")]:
            self.assertIs(is_possible_repeated(2, (), log, 0), True)
            self.assertIs(is_possible_repeated(1, ("x",), log, 0), True)

    def test_once_is_the_log(self):
        for log in IMPOSSIBLE:
            self.assertIs(is_possible_repeated(2, (), log, 1), False)
        self.assertIs(is_possible_repeated(2, (), misses("ab"), 1), True)
        self.assertIs(is_possible_repeated(2, (), misses("ab"), 2), False)

    def test_very_many_times(self):
        self.assertIs(is_possible_repeated(1, (), misses("ab"), MANY), True)
        self.assertIs(is_possible_repeated(2, (), misses("ab"), MANY), False)
        self.assertIs(is_possible_repeated(1, (), [], MANY), True)
        self.assertIs(is_possible_repeated(2, (), IMPOSSIBLE[0], MANY), False)

    def test_the_time_does_not_depend_on_the_number(self):
        log = turning_log(130)
        begun = time.perf_counter()
        for times in (4, 5, 10**6, MANY, 10**45 - 1):
            self.assertIs(is_possible_repeated(40, (), log, times), True)
            self.assertIs(is_possible_repeated(40, tuple(NAMES[:40]), log, times), False)
        self.assertLess(time.perf_counter() - begun, 10)

    def test_wrong_numbers(self):
        for times in NO_INTEGERS + [-1, -2, -MANY, Refusing()]:
            for log in IMPOSSIBLE + [[], misses("ab")]:
                with self.assertRaises(InvalidTimes) as caught:
                    is_possible_repeated(2, (), log, times)
                self.assertIs(type(caught.exception), InvalidTimes)


class WrittenOut(unittest.TestCase):
    """The log is written out zero to six times. Some logs are possible once, but none only twice or three times."""

    def check(self, case, possible):
        capacity, start, log = case
        right = [possible(capacity, start, log * times) for times in range(7)]
        found = [is_possible_repeated(*case, times) for times in range(7)]
        self.assertEqual(found, right, case)
        self.assertEqual(most_repeats(*case), None if right[-1] else right.index(False) - 1, case)
        self.assertIs(is_possible_repeated(*case, MANY), right[-1], case)

    def test_all_small_cases(self):
        for case in oracle.small_cases(4):
            self.check(case, is_possible)

    def test_with_all_contents(self):
        for case in oracle.small_cases(3) + oracle.small_cases(5, ("a", "b")):
            if is_possible(*case):
                self.check(case, self.has_history)

    def has_history(self, capacity, start, log):
        return bool(oracle.told_by_contents(capacity, start, log).shelves[0])

    def test_longer_logs(self):
        for capacity, start, log, _ in played_cases() + large_cases():
            for length in (len(log), 5, 9, 12):
                self.check((capacity, start, log[:length]), is_possible)


if __name__ == "__main__":
    unittest.main()
