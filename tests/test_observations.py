"""Tests of [25] and [26]: what observations leave of the histories."""

import unittest
from itertools import product
from random import Random

from hitlog.errors import InvalidObservations, NotPossible
from hitlog.logs import replay
from hitlog.observations import first_conflict, observed_history
from hitlog.presence import presence
from tests import oracle
from tests.logs import NAMES, played_cases, played_log, turning_log
from tests.values import NO_INTEGERS, ODD_VALUES, WRONG_PAGES, Refusing

LOG = [("miss", "a"), ("miss", "b"), ("miss", "c")]
IMPOSSIBLE = [[("hit", "z")], [("miss", "a"), ("miss", "a")], LOG + [("hit", "a"), ("hit", "b")]]

# Values that are no list of observations of LOG.
WRONG_OBSERVATIONS = (
    [
        (),
        (1, "a", True),
        [1, "a", True],
        ((1, "a", True),),
        {(1, "a", True)},
        {(1, "a", True): None},
        [[1, "a", True]],
        [[(1, "a", True)]],
        [()],
        [(1,)],
        [(1, "a")],
        [(1, True)],
        [("a", True)],
        [(1, "a", True, True)],
        [("a", 1, True)],
        [(True, "a", 1)],
        [{1: "a"}],
        ["1a1"],
        [(4, "a", True)],
        [(-1, "a", False)],
        [(10**44, "a", True)],
        [(-(10**44), "a", True)],
    ]
    + ODD_VALUES
    + [[value] for value in ODD_VALUES]
    + [[(moment, "a", True)] for moment in NO_INTEGERS]
    + [[(1, page, True)] for page in WRONG_PAGES]
    + [[(1, "a", present)] for present in (0, 1, None, "True", "", "a", 1.0, (), (True,), [], [True], Refusing())]
    + [Refusing(), [Refusing()], [(Refusing(), "a", True)], [(1, Refusing(), True)]]
)


def misses(pages):
    return [("miss", page) for page in pages]


class FirstConflict(unittest.TestCase):
    def test_no_observation(self):
        self.assertIs(first_conflict(1, (), [], []), None)
        self.assertIs(first_conflict(2, (), LOG, []), None)

    def test_empty_log(self):
        self.assertIs(first_conflict(1, (), [], [(0, "a", False)]), None)
        self.assertEqual(first_conflict(1, (), [], [(0, "a", True)]), 0)
        self.assertIs(first_conflict(2, ("a",), [], [(0, "a", True), (0, "b", False)]), None)
        self.assertEqual(first_conflict(2, ("a",), [], [(0, "a", True), (0, "a", False)]), 1)

    def test_a_page_that_does_not_occur(self):
        observations = [(moment, page, False) for moment in range(4) for page in ("z", "aa", "hit")]
        self.assertIs(first_conflict(2, (), LOG, observations), None)
        for moment in range(4):
            self.assertEqual(first_conflict(2, (), LOG, observations + [(moment, "z", True)]), len(observations))

    def test_a_page_that_has_not_occurred_yet(self):
        self.assertIs(first_conflict(2, (), LOG, [(2, "c", False), (0, "a", False), (1, "b", False)]), None)
        self.assertEqual(first_conflict(2, (), LOG, [(2, "c", True)]), 0)
        self.assertEqual(first_conflict(2, (), LOG, [(0, "a", True)]), 0)

    def test_moment_0(self):
        self.assertEqual(first_conflict(2, ("x",), LOG, [(0, "x", True), (0, "a", False), (0, "x", False)]), 2)

    def test_the_last_moment(self):
        self.assertIs(first_conflict(2, (), LOG, [(3, "a", True)]), None)
        self.assertIs(first_conflict(2, (), LOG, [(3, "a", False)]), None)
        self.assertEqual(first_conflict(2, (), LOG, [(3, "a", True), (3, "b", True)]), 1)
        self.assertEqual(first_conflict(2, (), LOG, [(3, "a", False), (3, "b", False)]), 1)
        self.assertEqual(first_conflict(2, (), LOG, [(3, "c", True), (3, "c", False)]), 1)

    def test_before_and_after_the_eviction(self):
        self.assertIs(first_conflict(2, (), LOG, [(3, "a", False), (2, "a", True)]), None)
        self.assertEqual(first_conflict(2, (), LOG, [(2, "a", False)]), 0)
        self.assertEqual(first_conflict(2, (), LOG, [(1, "a", False)]), 0)

    def test_moments_around_a_request(self):
        log = misses("abca")
        self.assertIs(first_conflict(2, (), log, [(3, "a", False), (4, "a", True)]), None)
        self.assertEqual(first_conflict(2, (), log, [(3, "a", True)]), 0)
        self.assertEqual(first_conflict(2, (), log, [(4, "a", False)]), 0)
        log = LOG + [("hit", "a")]
        self.assertIs(first_conflict(2, (), log, [(3, "a", True), (4, "a", True), (3, "b", False)]), None)
        self.assertEqual(first_conflict(2, (), log, [(3, "a", False)]), 0)
        self.assertEqual(first_conflict(2, (), log, [(4, "a", False)]), 0)

    def test_a_page_that_is_gone_comes_back_only_by_a_request(self):
        log = misses("abcde")
        self.assertEqual(first_conflict(2, (), log, [(4, "b", False), (5, "b", True)]), 1)
        self.assertEqual(first_conflict(2, (), log, [(5, "b", True), (4, "b", False)]), 1)
        self.assertIs(first_conflict(2, (), log, [(5, "b", False), (4, "b", True)]), None)
        self.assertIs(first_conflict(2, (), misses("abcdb"), [(4, "b", False), (5, "b", True)]), None)

    def test_repeated_observations(self):
        self.assertIs(first_conflict(2, (), LOG, [(3, "a", True)] * 130), None)
        self.assertEqual(first_conflict(2, (), LOG, [(3, "a", True)] * 100 + [(3, "a", False)] * 30), 100)

    def test_observations_that_take_all_the_room(self):
        log = misses("abcde")
        self.assertEqual(first_conflict(3, (), log, [(5, "a", True), (5, "b", True), (5, "c", False)]), None)
        self.assertEqual(first_conflict(3, (), log, [(5, "a", True), (5, "b", True), (4, "c", True)]), 2)

    def test_too_few_evictions_for_what_is_gone(self):
        log = misses("abcde")
        self.assertIs(first_conflict(3, (), log, [(5, "a", False), (5, "b", False)]), None)
        self.assertEqual(first_conflict(3, (), log, [(5, "a", False), (5, "b", False), (5, "c", False)]), 2)
        self.assertEqual(first_conflict(3, (), log, [(4, "a", False), (4, "b", False)]), 1)

    def test_a_page_of_the_start_that_is_never_requested(self):
        self.assertIs(first_conflict(2, ("x",), LOG, [(3, "x", True), (1, "x", True)]), None)
        self.assertIs(first_conflict(2, ("x",), LOG, [(3, "x", False), (2, "x", True)]), None)
        self.assertEqual(first_conflict(2, ("x",), LOG, [(1, "x", False)]), 0)
        self.assertEqual(first_conflict(1, ("x",), LOG, [(0, "x", True), (1, "x", True)]), 1)

    def test_every_index_can_be_the_first(self):
        observations = [(index % 4, "z", False) for index in range(130)]
        for index in range(130):
            wrong = observations[:index] + [(3, "c", False)] + observations[index:]
            self.assertEqual(first_conflict(2, (), LOG, wrong), index)

    def test_the_first_of_several(self):
        self.assertEqual(first_conflict(2, (), LOG, [(3, "a", True), (3, "z", True), (3, "a", False)]), 1)

    def test_one_is_the_moment_but_true_is_not(self):
        self.assertIs(first_conflict(2, (), LOG, [(1, "a", True)]), None)
        with self.assertRaises(InvalidObservations):
            first_conflict(2, (), LOG, [(True, "a", True)])


class ObservedHistory(unittest.TestCase):
    def test_no_eviction(self):
        self.assertEqual(observed_history(1, (), [], []), [])
        self.assertEqual(observed_history(3, (), LOG, [(3, "a", True)]), [])

    def test_none(self):
        self.assertIs(observed_history(1, (), [], [(0, "a", True)]), None)
        self.assertIs(observed_history(2, (), LOG, [(3, "a", True), (3, "b", True)]), None)

    def test_one_history(self):
        self.assertEqual(observed_history(2, (), LOG, [(3, "a", True)]), ["b"])
        self.assertEqual(observed_history(2, (), LOG, [(3, "a", False)]), ["a"])
        self.assertEqual(observed_history(2, (), misses("abcd"), [(4, "b", True)]), ["a", "c"])
        self.assertEqual(observed_history(2, (), misses("abcd"), [(4, "b", False), (3, "b", True)]), ["a", "b"])
        self.assertEqual(observed_history(2, (), misses("abcd"), [(4, "a", True), (3, "b", False)]), ["b", "c"])

    def test_a_page_that_was_seen_goes_later(self):
        log = misses("abcdea")
        self.assertEqual(observed_history(2, (), log, [(4, "a", True), (5, "c", False)])[:3], ["b", "c", "a"])


class AllHistories(unittest.TestCase):
    def check(self, case, observations, all_replays):
        told = (case, observations)
        conflict = first_conflict(*case, observations)
        self.assertEqual(conflict, oracle.first_conflict(all_replays, observations), told)
        found = observed_history(*case, observations)
        if conflict is None:
            self.assertIn(found, oracle.agreeing(all_replays, observations), told)
        else:
            self.assertIs(found, None, told)

    def test_each_observation_alone(self):
        for case in oracle.small_cases(3):
            all_replays = oracle.replays(*case)
            if all_replays:
                for one in product(range(len(case[2]) + 1), ("a", "b", "x"), (False, True)):
                    self.check(case, [one], all_replays)

    def test_all_pairs_of_observations(self):
        for log in (misses("abcda"), LOG + [("hit", "b")] + misses("da"), misses("abacb")):
            for case in ((1, (), log), (2, (), log), (2, ("x",), log), (3, ("x", "y"), log)):
                all_replays = oracle.replays(*case)
                if all_replays:
                    ones = list(product(range(6), ("a", "b", "x"), (False, True)))
                    for pair in product(ones, ones):
                        self.check(case, list(pair), all_replays)

    def test_several_observations(self):
        random = Random(25)
        for case in oracle.small_cases(4):
            all_replays = oracle.replays(*case)
            if all_replays:
                for many in (2, 3, 5, 9):
                    # One observation in four is wrong, so that some lists agree with a history.
                    _, contents = random.choice(all_replays)
                    self.check(case, some_observations(random, contents, "abcxz", many, 4), all_replays)


def some_observations(random, contents, pages, many, wrong):
    """Return so many observations of these contents, of which one in so many is turned round."""
    observations = []
    for _ in range(many):
        moment = random.randrange(len(contents))
        page = random.choice(pages)
        observations.append((moment, page, (page in contents[moment]) != (random.randrange(wrong) == 0)))
    return observations


class LongerLogs(unittest.TestCase):
    def test_few_pages(self):
        random = Random(26)
        for capacity, start, log, evicted in played_cases():
            case = (capacity, start, log)
            contents = replay(*case, evicted)
            for many, wrong in ((3, 4), (10, 10), (130, 60)):
                pages = NAMES[:capacity + 4]
                self.check(case, some_observations(random, contents, pages, many, wrong))

    def check(self, case, observations):
        conflict = first_conflict(*case, observations)
        if conflict is not None:
            self.assertFalse(oracle.told_by_contents(*case, observations[:conflict + 1]).shelves[0])
            self.assertIs(observed_history(*case, observations), None)
            observations = observations[:conflict]
        self.assertTrue(oracle.told_by_contents(*case, observations).shelves[0])
        self.assertIs(first_conflict(*case, observations), None)
        self.check_history(case, observations)

    def check_history(self, case, observations):
        contents = replay(*case, observed_history(*case, observations))
        for moment, page, present in observations:
            self.assertIs(page in contents[moment], present)

    def test_the_largest_logs(self):
        random = Random(40)
        for seed, capacity in enumerate((1, 2, 39, 40, 40, 40)):
            start = tuple(NAMES[:seed * capacity // 5])
            log, evicted = played_log(seed, capacity, start, NAMES[:capacity + 20], 130, seed % 3)
            case = (capacity, start, log)
            observations = some_observations(random, replay(*case, evicted), NAMES[:capacity + 22], 130, 10**9)
            self.assertIs(first_conflict(*case, observations), None)
            self.check_history(case, observations)
            moment, page, present = observations[70]
            self.assertLessEqual(first_conflict(*case, observations + [(moment, page, not present)]), 130)
            self.assertLessEqual(first_conflict(*case, [(moment, page, not present)] + observations), 71)

    def test_each_presence_of_a_large_log(self):
        log = turning_log(60)
        for moment in (0, 40, 41, 100, 130):
            for page in NAMES[:61:7]:
                told = presence(40, (), log, page, moment)
                seen = first_conflict(40, (), log, [(moment, page, True)])
                gone = first_conflict(40, (), log, [(moment, page, False)])
                expected = {"always": (None, 0), "never": (0, None), "sometimes": (None, None)}[told]
                self.assertEqual((seen, gone), expected)


class WrongArguments(unittest.TestCase):
    def expect(self, error, *arguments):
        for function in (first_conflict, observed_history):
            with self.assertRaises(error) as caught:
                function(*arguments)
            self.assertIs(type(caught.exception), error)

    def test_observations(self):
        for log in [LOG, LOG[::-1]]:
            for observations in WRONG_OBSERVATIONS:
                with self.subTest(observations=repr(observations)[:80]):
                    self.expect(InvalidObservations, 2, (), log, observations)

    def test_a_wrong_observation_among_right_ones(self):
        right = [(3, "a", True)] * 5
        for index in range(6):
            for wrong in ((4, "a", True), (1, "A", True), (1, "a", 1), [1, "a", True], None):
                self.expect(InvalidObservations, 2, (), LOG, right[:index] + [wrong] + right[index:])

    def test_a_wrong_observation_behind_a_conflict(self):
        self.expect(InvalidObservations, 2, (), LOG, [(0, "z", True), (4, "a", True)])

    def test_moments_of_the_empty_log(self):
        self.expect(InvalidObservations, 2, (), [], [(1, "a", False)])
        self.expect(InvalidObservations, 2, (), [], [(-1, "a", False)])
        self.expect(InvalidObservations, 2, (), [], [(False, "a", False)])

    def test_logs_that_are_not_possible(self):
        for log in IMPOSSIBLE:
            for observations in ([], [(0, "a", False)], [(1, "z", True)], [(1, "a", True), (1, "a", False)]):
                self.expect(NotPossible, 2, (), log, observations)
            for observations in (None, [(len(log) + 1, "a", True)], [(0, "a", 0)]):
                self.expect(InvalidObservations, 2, (), log, observations)


if __name__ == "__main__":
    unittest.main()
