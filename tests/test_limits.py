"""Tests of the limits of [2]: capacities up to 40 and logs of up to 130 events."""

import time
import unittest

from hitlog.errors import InvalidHistory
from hitlog.gaps import gaps, held_counts
from hitlog.logs import evicting_misses, is_log, is_shelf, replay, sizes
from tests import oracle

NAMES = [one + two for one in "abcdefghijklm" for two in "abcdefghijklm"]
CAPACITIES = (1, 2, 3, 20, 39, 40)


def turning_log(pages):
    """Return a log of 130 misses of so many pages in turn."""
    return [("miss", NAMES[index % pages]) for index in range(130)]


def mixed_log(pages):
    """Return a log of 130 events with hits and misses of so many pages."""
    return [
        ("hit" if index % 3 == 2 else "miss", NAMES[(index * index + index // 7) % pages])
        for index in range(130)
    ]


def oldest_first(capacity, log):
    """Return the evictions that let the longest page on the shelf go, for misses in turn."""
    return [page for mark, page in log[:-capacity]]


class Limits(unittest.TestCase):
    def test_all_functions_at_the_limits(self):
        for capacity in CAPACITIES:
            for many in (1, 2, 41, 130):
                for log in (turning_log(many), mixed_log(many)):
                    for start in ((), tuple(NAMES[:capacity]), tuple(NAMES[100:100 + capacity // 2])):
                        self.check(capacity, start, log)

    def check(self, capacity, start, log):
        self.assertIs(is_shelf(start), True)
        self.assertIs(is_log(log), True)
        self.assertEqual(sizes(capacity, start, log), oracle.sizes(capacity, start, log))
        self.assertEqual(evicting_misses(capacity, start, log), oracle.evicting_misses(capacity, start, log))
        self.assertEqual(gaps(start, log), oracle.gaps(start, log))
        self.assertEqual(held_counts(capacity, start, log), oracle.held_counts(capacity, start, log))

    def test_replay_of_a_long_history(self):
        for capacity in CAPACITIES:
            log = turning_log(130)
            contents = replay(capacity, (), log, oldest_first(capacity, log))
            expected = [tuple(NAMES[max(0, moment - capacity):moment]) for moment in range(131)]
            self.assertEqual(contents, expected)

    def test_replay_of_pages_in_turn(self):
        for capacity in CAPACITIES:
            log = turning_log(capacity + 1)
            contents = replay(capacity, (), log, oldest_first(capacity, log))
            self.assertEqual(len(contents), 131)
            wrong = oldest_first(capacity, log)
            wrong[-1] = NAMES[129 % (capacity + 1)]
            with self.assertRaises(InvalidHistory):
                replay(capacity, (), log, wrong)

    def test_somewhat_beyond_the_limits(self):
        log = turning_log(150) * 2
        self.assertEqual(sizes(60, (), log)[-1], 60)
        self.assertEqual(len(replay(60, (), log, oldest_first(60, log))), 261)
        self.assertEqual(len(gaps((), log)), 260)

    def test_without_delay(self):
        log = mixed_log(60)
        turning = turning_log(41)
        evicted = oldest_first(40, turning)
        begun = time.perf_counter()
        for _ in range(20):
            sizes(40, (), log)
            evicting_misses(40, (), log)
            gaps((), log)
            held_counts(40, (), log)
            replay(40, (), turning, evicted)
        self.assertLess(time.perf_counter() - begun, 10)


if __name__ == "__main__":
    unittest.main()
