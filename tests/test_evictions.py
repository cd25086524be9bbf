"""Tests of [21] and [22]: which pages are evicted at which miss."""

import unittest

from hitlog.errors import InvalidIndex, NotPossible
from hitlog.evictions import candidates, eviction_range, known_evictions
from tests import oracle
from tests.logs import NAMES, played_cases, turning_log
from tests.values import NO_INTEGERS, Refusing


def misses(pages):
    return [("miss", page) for page in pages]


IMPOSSIBLE = [[("hit", "z")] + misses("abca"), misses("abcdd"), misses("abca") + [("hit", "b"), ("hit", "c")]]


class Candidates(unittest.TestCase):
    def test_the_first_and_the_last_evicting_miss(self):
        self.assertEqual(candidates(2, (), misses("abcd"), 2), ["a", "b"])
        self.assertEqual(candidates(2, (), misses("abcd"), 3), ["a", "b", "c"])
        self.assertEqual(candidates(2, ("y", "x"), misses("abcd"), 0), ["x", "y"])

    def test_capacity_one(self):
        self.assertEqual(candidates(1, (), misses("ab"), 1), ["a"])
        self.assertEqual(candidates(1, ("x",), misses("ab"), 0), ["x"])
        self.assertEqual(candidates(1, ("x",), misses("ab"), 1), ["a"])

    def test_held_pages_are_none(self):
        log = misses("abc") + [("hit", "a")]
        self.assertEqual(candidates(2, (), log, 2), ["b"])
        self.assertEqual(candidates(3, ("x", "y", "z"), misses("a") + [("hit", "y")], 0), ["x", "z"])

    def test_pages_that_must_go_in_time(self):
        self.assertEqual(candidates(2, (), misses("abca"), 2), ["a"])
        self.assertEqual(candidates(2, (), misses("abcda"), 2), ["a", "b"])
        self.assertEqual(candidates(2, (), misses("abcda"), 3), ["a", "b", "c"])
        self.assertEqual(candidates(2, (), misses("abcda"), 4), ["b", "c", "d"])

    def test_pages_that_are_gone(self):
        log = misses("abc") + [("hit", "b")] + misses("d")
        self.assertEqual(candidates(2, (), log, 2), ["a"])
        self.assertEqual(candidates(2, (), log, 4), ["b", "c"])

    def test_never_requested_pages_of_the_start(self):
        self.assertEqual(candidates(3, ("y", "x"), misses("abc"), 1), ["a", "x", "y"])
        self.assertEqual(candidates(3, ("y", "x"), misses("abca"), 1), ["a", "x", "y"])
        self.assertEqual(candidates(3, ("y", "x"), misses("abca"), 2), ["a", "b", "x", "y"])

    def test_alphabetical_order(self):
        log = misses(["b", "ab", "aa", "a", "abc"])
        self.assertEqual(candidates(4, (), log, 4), ["a", "aa", "ab", "b"])

    def test_a_large_shelf(self):
        log = turning_log(130)
        self.assertEqual(candidates(40, (), log, 40), NAMES[:40])
        self.assertEqual(candidates(40, (), log, 129), NAMES[:129])


class KnownEvictions(unittest.TestCase):
    def test_none(self):
        self.assertEqual(known_evictions(1, (), []), [])
        self.assertEqual(known_evictions(2, ("a",), [("hit", "a"), ("miss", "b")]), [])
        self.assertEqual(known_evictions(2, (), misses("abcd")), [])

    def test_capacity_one(self):
        self.assertEqual(known_evictions(1, ("x",), misses("aba")), [(0, "x"), (1, "a"), (2, "b")])

    def test_some(self):
        self.assertEqual(known_evictions(2, (), misses("abc") + [("hit", "a")] + misses("d")), [(2, "b")])
        self.assertEqual(known_evictions(2, (), misses("abcab")), [(2, "a"), (3, "b")])
        self.assertEqual(known_evictions(2, (), misses("abcda")), [])

    def test_pages_in_turn(self):
        for capacity in (1, 2, 3, 39, 40):
            log = turning_log(capacity + 1)
            # The page that is requested next has just been evicted; only the last eviction leaves a choice.
            expected = [(e, NAMES[(e + 1) % (capacity + 1)]) for e in range(capacity, 129)]
            if capacity == 1:
                expected.append((129, NAMES[0]))
            self.assertEqual(known_evictions(capacity, (), log), expected)

    def test_different_pages(self):
        self.assertEqual(known_evictions(40, (), turning_log(130)), [])
        log = turning_log(130)
        self.assertEqual(known_evictions(1, (), log), [(e, NAMES[e - 1]) for e in range(1, 130)])

    def test_kinds_of_the_entries(self):
        for entry in known_evictions(1, (), misses("abc")):
            self.assertEqual([type(entry), type(entry[0]), type(entry[1])], [tuple, int, str])


class EvictionRange(unittest.TestCase):
    def test_one_miss(self):
        self.assertEqual(eviction_range(1, (), misses("aba"), 2), (1, 1))
        self.assertEqual(eviction_range(2, (), misses("abca"), 3), (2, 2))
        self.assertEqual(eviction_range(2, ("a", "b"), misses("ca"), 1), (0, 0))

    def test_several_misses(self):
        self.assertEqual(eviction_range(2, (), misses("abcdea"), 5), (2, 4))
        self.assertEqual(eviction_range(2, ("a", "b"), misses("cdea"), 3), (0, 2))
        self.assertEqual(eviction_range(3, ("a", "b"), misses("cdea"), 3), (1, 2))

    def test_the_last_request_counts(self):
        log = misses("abc") + [("hit", "a")] + misses("dea")
        self.assertEqual(eviction_range(2, (), log, 6), (4, 5))

    def test_other_pages_need_the_first_or_the_last_miss(self):
        self.assertEqual(eviction_range(2, (), misses("abcab"), 3), (2, 2))
        self.assertEqual(eviction_range(2, (), misses("abcab"), 4), (3, 3))
        log = misses("abc") + [("hit", "b")] + misses("dea")
        self.assertEqual(eviction_range(2, (), log, 6), (2, 2))

    def test_pages_in_turn(self):
        for capacity in (1, 2, 3, 40):
            log = turning_log(capacity + 1)
            for index in (capacity + 1, 100, 129):
                self.assertEqual(eviction_range(capacity, (), log, index), (index - 1, index - 1))

    def test_a_large_shelf(self):
        log = turning_log(129)
        self.assertEqual(eviction_range(40, (), log, 129), (40, 128))
        self.assertEqual(eviction_range(1, (), log, 129), (1, 1))


class AllHistories(unittest.TestCase):
    def test_all_small_cases(self):
        for capacity, start, log in oracle.small_cases(4):
            told = oracle.told_by_each_history(capacity, start, log)
            if told.shelves[0]:
                self.check(capacity, start, log, told, list(told.victims))

    def test_longer_logs_of_two_pages(self):
        for capacity, start, log in oracle.small_cases(6, ("a", "b")):
            if capacity < 3:
                told = oracle.told_by_contents(capacity, start, log)
                if told.shelves[0]:
                    self.check(capacity, start, log, told, list(told.victims))

    def test_longer_logs(self):
        for capacity, start, log, evicted in played_cases():
            told = oracle.told_by_contents(capacity, start, log)
            self.check(capacity, start, log, told, list(told.victims)[-20:])
            misses_of_log = oracle.evicting_misses(capacity, start, log)
            self.assertLessEqual(set(known_evictions(capacity, start, log)), set(zip(misses_of_log, evicted)))

    def test_the_two_ways_to_ask_all_histories_agree(self):
        for capacity, start, log in oracle.small_cases(3):
            one = oracle.told_by_each_history(capacity, start, log)
            two = oracle.told_by_contents(capacity, start, log)
            self.assertEqual((one.shelves, one.victims), (two.shelves, two.victims))

    def check(self, capacity, start, log, told, indices):
        case = (capacity, start, log)
        for index in indices:
            self.assertEqual(candidates(*case, index), sorted(told.victims[index]), (case, index))
        self.assertEqual(known_evictions(*case), told.known(), case)
        for _, _, end, kind in oracle.gaps(start, log):
            if kind == "released":
                self.assertEqual(eviction_range(*case, end), told.range(start, log, end), (case, end))


class WrongArguments(unittest.TestCase):
    def expect(self, error, function, *arguments):
        with self.assertRaises(error) as caught:
            function(*arguments)
        self.assertIs(type(caught.exception), error)

    def test_indices_that_are_no_evicting_miss(self):
        log = misses("abc") + [("hit", "c")] + misses("d")
        for index in (2, 4):
            self.assertTrue(candidates(2, (), log, index))
        for index in NO_INTEGERS + [0, 1, 3, 5, -1, -3, 10**44, -(10**44), Refusing()]:
            self.expect(InvalidIndex, candidates, 2, (), log, index)
        self.expect(InvalidIndex, candidates, 2, (), [], 0)
        self.expect(InvalidIndex, candidates, 1, (), misses("abc"), True)
        self.expect(InvalidIndex, candidates, 1, ("x",), misses("abc"), False)
        self.expect(InvalidIndex, candidates, 1, ("x",), misses("abc"), 1.0)

    def test_indices_that_are_no_end_of_a_released_gap(self):
        log = misses("abcab") + [("hit", "b")] + misses("d")
        for index in (3, 4):
            self.assertTrue(eviction_range(2, (), log, index))
        for index in NO_INTEGERS + [0, 1, 2, 5, 6, 7, -1, -3, 10**44, -(10**44), Refusing()]:
            self.expect(InvalidIndex, eviction_range, 2, (), log, index)
        self.expect(InvalidIndex, eviction_range, 2, (), [], 0)
        self.expect(InvalidIndex, eviction_range, 1, ("x",), misses("ax"), True)
        self.expect(InvalidIndex, eviction_range, 1, ("x",), misses("ax"), 1.0)
        self.expect(InvalidIndex, eviction_range, 2, ("x",), misses("a"), None)

    def test_logs_that_are_not_possible(self):
        for log in IMPOSSIBLE:
            self.expect(NotPossible, known_evictions, 2, (), log)
            self.expect(NotPossible, candidates, 2, (), log, oracle.evicting_misses(2, (), log)[0])
            ends = [end for _, _, end, kind in oracle.gaps((), log) if kind == "released"]
            self.expect(NotPossible, eviction_range, 2, (), log, ends[0])

    def test_a_wrong_index_comes_before_an_impossible_log(self):
        for log in IMPOSSIBLE:
            for index in (None, True, "2", -1, 10**44, 0, 2.0):
                self.expect(InvalidIndex, candidates, 2, (), log, index)
                self.expect(InvalidIndex, eviction_range, 2, (), log, index)


if __name__ == "__main__":
    unittest.main()
