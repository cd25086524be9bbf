"""Tests of the limits of [2], in the time that [3] allows: capacities up to 40 and logs of up to 130 events."""

import time
import unittest

from hitlog.capacities import capacities, next_marks
from hitlog.errors import InvalidHistory
from hitlog.evictions import candidates, eviction_range, known_evictions
from hitlog.finals import can_be_final, count_finals, nth_final, rank_final
from hitlog.gaps import gaps, held_counts
from hitlog.logs import evicting_misses, is_log, is_shelf, replay, sizes
from hitlog.observations import first_conflict, observed_history
from hitlog.possible import first_impossible, history, is_possible, is_reason, why_not
from hitlog.presence import certain_pages, possible_pages, presence
from hitlog.repeats import is_possible_repeated, most_repeats
from hitlog.rules import first_difference
from tests import oracle
from tests.logs import NAMES, large_cases, turning_log

CAPACITIES = (1, 2, 3, 20, 39, 40)


def mixed_log(pages):
    """Return a log of 130 events with hits and misses of so many pages."""
    return [
        ("hit" if index % 3 == 2 else "miss", NAMES[(index * index + index // 7) % pages])
        for index in range(130)
    ]


def oldest_first(capacity, log):
    """Return the evictions that let the longest page on the shelf go, for misses in turn."""
    return [page for mark, page in log[:-capacity]]


class Limits(unittest.TestCase):
    def test_all_functions_at_the_limits(self):
        for capacity in CAPACITIES:
            for many in (1, 2, 41, 130):
                for log in (turning_log(many), mixed_log(many)):
                    for start in ((), tuple(NAMES[:capacity]), tuple(NAMES[100:100 + capacity // 2])):
                        self.check(capacity, start, log)

    def check(self, capacity, start, log):
        self.assertIs(is_shelf(start), True)
        self.assertIs(is_log(log), True)
        self.assertEqual(sizes(capacity, start, log), oracle.sizes(capacity, start, log))
        self.assertEqual(evicting_misses(capacity, start, log), oracle.evicting_misses(capacity, start, log))
        self.assertEqual(gaps(start, log), oracle.gaps(start, log))
        self.assertEqual(held_counts(capacity, start, log), oracle.held_counts(capacity, start, log))

    def test_replay_of_a_long_history(self):
        for capacity in CAPACITIES:
            log = turning_log(130)
            contents = replay(capacity, (), log, oldest_first(capacity, log))
            expected = [tuple(NAMES[max(0, moment - capacity):moment]) for moment in range(131)]
            self.assertEqual(contents, expected)

    def test_replay_of_pages_in_turn(self):
        for capacity in CAPACITIES:
            log = turning_log(capacity + 1)
            contents = replay(capacity, (), log, oldest_first(capacity, log))
            self.assertEqual(len(contents), 131)
            wrong = oldest_first(capacity, log)
            wrong[-1] = NAMES[129 % (capacity + 1)]
            with self.assertRaises(InvalidHistory):
                replay(capacity, (), log, wrong)

    def test_somewhat_beyond_the_limits(self):
        log = turning_log(150) * 2
        self.assertEqual(sizes(60, (), log)[-1], 60)
        self.assertEqual(len(replay(60, (), log, oldest_first(60, log))), 261)
        self.assertEqual(len(gaps((), log)), 260)

    def test_without_delay(self):
        log = mixed_log(60)
        turning = turning_log(41)
        evicted = oldest_first(40, turning)
        begun = time.perf_counter()
        for _ in range(20):
            sizes(40, (), log)
            evicting_misses(40, (), log)
            gaps((), log)
            held_counts(40, (), log)
            replay(40, (), turning, evicted)
        self.assertLess(time.perf_counter() - begun, 10)


class LargePossibleLogs(unittest.TestCase):
    """Each log was made with a history, which all answers must allow."""

    def test_the_log_is_possible(self):
        for capacity, start, log, _ in large_cases():
            self.assertIs(is_possible(capacity, start, log), True)
            self.assertIs(why_not(capacity, start, log), None)
            self.assertIs(is_reason(capacity, start, log, ("released", -1, 10**44)), False)
            self.assertIs(first_impossible(capacity, start, log), None)
            found = history(capacity, start, log)
            self.assertEqual(found, oracle.history(capacity, start, log))
            self.assertEqual(len(replay(capacity, start, log, found)), 131)
            least, greatest = capacities(start, log)
            self.assertTrue(least <= capacity and (greatest is None or capacity <= greatest))

    def test_the_log_with_a_wrong_event(self):
        for capacity, start, log, _ in large_cases():
            for index in (1, 70, 129):
                wrong = log[:index] + [("hit", "zzzz")] + log[index:]
                self.assertIs(is_possible(capacity, start, wrong), False)
                self.assertEqual(first_impossible(capacity, start, wrong), index)
                self.assertEqual(why_not(capacity, start, wrong), ("first", index))

    def test_presence(self):
        for capacity, start, log, evicted in large_cases():
            contents = replay(capacity, start, log, evicted)
            for moment in (0, 1, 65, 129, 130):
                self.check_presence(capacity, start, log, moment, contents[moment])

    def check_presence(self, capacity, start, log, moment, shelf):
        certain = certain_pages(capacity, start, log, moment)
        some = possible_pages(capacity, start, log, moment)
        self.assertTrue(set(certain) <= set(shelf) <= set(some))
        for page in sorted(set(start) | {page for _, page in log}):
            # A hit that is put in at this moment asks for the page and changes nothing.
            longer = log[:moment] + [("hit", page)] + log[moment:]
            self.assertIs(page in some, is_possible(capacity, start, longer))
            expected = "always" if page in certain else "sometimes" if page in some else "never"
            self.assertEqual(presence(capacity, start, log, page, moment), expected)

    def test_next_marks(self):
        for capacity, start, log, _ in large_cases():
            for page in sorted({page for _, page in log}):
                told = presence(capacity, start, log, page, 130)
                marks = {"always": ["hit"], "never": ["miss"], "sometimes": ["hit", "miss"]}[told]
                self.assertEqual(next_marks(capacity, start, log, page), marks)

    def test_evictions(self):
        for capacity, start, log, evicted in large_cases():
            pairs = list(zip(evicting_misses(capacity, start, log), evicted))
            known = known_evictions(capacity, start, log)
            self.assertLessEqual(set(known), set(pairs))
            for e, page in pairs[:10] + pairs[-10:]:
                found = candidates(capacity, start, log, e)
                self.assertIn(page, found)
                self.assertEqual(found == [page], (e, page) in known)

    def test_eviction_ranges(self):
        for capacity, start, log, evicted in large_cases():
            pairs = list(zip(evicting_misses(capacity, start, log), evicted))
            for page, begin, end, kind in gaps(start, log):
                if kind == "released":
                    at = [e for e, victim in pairs if begin < e < end and victim == page]
                    first, last = eviction_range(capacity, start, log, end)
                    self.assertTrue(begin < first <= at[0] <= last < end)

    def test_finals(self):
        for capacity, start, log, evicted in large_cases():
            last = replay(capacity, start, log, evicted)[-1]
            self.assertIs(can_be_final(capacity, start, log, last), True)
            index = rank_final(capacity, start, log, last)
            self.assertTrue(0 <= index < count_finals(capacity, start, log))
            self.assertEqual(sorted(nth_final(capacity, start, log, index)), list(last))

    def test_observations(self):
        for capacity, start, log, evicted in large_cases():
            contents = replay(capacity, start, log, evicted)
            observations = [(moment, NAMES[moment], NAMES[moment] in contents[moment]) for moment in range(130)]
            self.assertIs(first_conflict(capacity, start, log, observations), None)
            found = replay(capacity, start, log, observed_history(capacity, start, log, observations))
            self.assertEqual([(t, page, page in found[t]) for t, page, _ in observations], observations)

    def test_held_pages_on_a_full_shelf(self):
        start = tuple(NAMES[:40])
        log = [("miss", "zzzz")] + [("hit", page) for page in NAMES[1:40]]
        self.assertEqual(candidates(40, start, log, 0), [NAMES[0]])
        self.assertEqual(known_evictions(40, start, log), [(0, NAMES[0])])
        self.assertEqual(certain_pages(40, start, log, 1), tuple(NAMES[1:40]) + ("zzzz",))
        self.assertEqual(why_not(40, start, log + [("hit", NAMES[0])]), ("held", 0))
        self.assertEqual(first_impossible(40, start, log + [("hit", NAMES[0])]), 40)
        self.assertEqual(capacities(start, log + [("hit", NAMES[0])]), (41, None))

    def test_a_capacity_that_has_many_digits(self):
        log = [("miss", "a"), ("miss", "b"), ("hit", "a")]
        huge = 10**44
        self.assertIs(is_possible(huge, (), log), True)
        self.assertEqual(why_not(huge, (), log + [("miss", "a")]), ("released", 2, 3))
        self.assertEqual(history(huge, ("x",), log), [])
        self.assertEqual(certain_pages(huge, ("x",), log, 3), ("a", "b", "x"))
        self.assertEqual(next_marks(huge, ("x",), log, "x"), ["hit"])
        self.assertEqual(known_evictions(huge, ("x",), log), [])

    def test_without_delay(self):
        begun = time.perf_counter()
        for capacity, start, log, _ in large_cases() + [(40, (), turning_log(41), []), (1, (), turning_log(2), [])]:
            history(capacity, start, log)
            first_impossible(capacity + 1, start, log)
            capacities(start, log)
            next_marks(capacity, start, log, NAMES[0])
            certain_pages(capacity, start, log, 130)
            possible_pages(capacity, start, log, 130)
            candidates(capacity, start, log, evicting_misses(capacity, start, log)[-1])
            known_evictions(capacity, start, log)
            nth_final(capacity, start, log, count_finals(capacity, start, log) - 1)
            most_repeats(capacity, start, log)
            is_possible_repeated(capacity, start, log, 10**45 - 1)
            for rule in ("LRU", "FIFO", "OPT"):
                first_difference(rule, capacity, start, log)
            observed_history(capacity, start, log, [(t, log[-1][1], False) for t in range(130)])
            first_conflict(capacity, start, log, [(t, "zzzz", False) for t in range(130)] + [(130, "zzzz", True)])
        self.assertLess(time.perf_counter() - begun, 30)


if __name__ == "__main__":
    unittest.main()
