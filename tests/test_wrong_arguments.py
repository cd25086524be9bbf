"""Tests of [3] and of the errors in [11] to [29]: each error alone, and which one comes first."""

import unittest
from itertools import product

from hitlog.capacities import capacities, next_marks
from hitlog.counting import count_histories, nth_history, rank_history
from hitlog.errors import (
    InvalidCapacity,
    InvalidHistory,
    InvalidIndex,
    InvalidLog,
    InvalidMoment,
    InvalidObservations,
    InvalidPage,
    InvalidPages,
    InvalidShelf,
    InvalidTimes,
    NotFinal,
    NotPossible,
)
from hitlog.evictions import candidates, eviction_range, known_evictions
from hitlog.finals import can_be_final, count_finals, nth_final, rank_final, why_not_final
from hitlog.gaps import gaps, held_counts
from hitlog.logs import evicting_misses, replay, sizes
from hitlog.observations import first_conflict, observed_history
from hitlog.possible import first_impossible, history, is_possible, is_reason, why_not
from hitlog.presence import certain_pages, possible_pages, presence
from hitlog.repeats import is_possible_repeated, most_repeats
from hitlog.rules import first_difference
from tests.values import WRONG_CAPACITIES, WRONG_LOGS, WRONG_SHELVES

LOG = [("miss", "a"), ("miss", "b"), ("hit", "a")]


def replay_without_evictions(capacity, start, log):
    return replay(capacity, start, log, [])


def with_more(function, *more):
    """Return the function of three arguments that passes these, too."""
    return lambda capacity, start, log: function(capacity, start, log, *more)


def behind_rule(function, rule):
    """Return the function of three arguments that passes this rule before them."""
    return lambda capacity, start, log: function(rule, capacity, start, log)


ONLY_WITH_CAPACITY = [
    sizes,
    evicting_misses,
    held_counts,
    is_possible,
    why_not,
    history,
    first_impossible,
    count_histories,
    most_repeats,
]
WITH_CAPACITY = ONLY_WITH_CAPACITY + [
    known_evictions,
    count_finals,
    replay_without_evictions,
    with_more(is_reason, None),
    with_more(next_marks, "a"),
    with_more(presence, "a", 0),
    with_more(certain_pages, 0),
    with_more(possible_pages, 0),
    with_more(candidates, 0),
    with_more(eviction_range, 0),
    with_more(can_be_final, ("a",)),
    with_more(why_not_final, ("a",)),
    with_more(nth_final, 0),
    with_more(rank_final, ("a",)),
    with_more(first_conflict, []),
    with_more(observed_history, []),
    with_more(nth_history, 0),
    with_more(rank_history, []),
    with_more(is_possible_repeated, 0),
    behind_rule(first_difference, "LRU"),
    behind_rule(first_difference, "OPT"),
    # A wrong argument behind the first three comes later.
    with_more(next_marks, None),
    with_more(presence, "A", -1),
    with_more(certain_pages, True),
    with_more(possible_pages, None),
    with_more(candidates, None),
    with_more(eviction_range, None),
    with_more(can_be_final, None),
    with_more(why_not_final, ["a"]),
    with_more(nth_final, -1),
    with_more(rank_final, ("a", "a")),
    with_more(first_conflict, None),
    with_more(observed_history, [(0, "a", 1)]),
    with_more(nth_history, None),
    with_more(rank_history, None),
    with_more(is_possible_repeated, -1),
]
WITHOUT_CAPACITY = [gaps, capacities]

# Few wrong values of each argument, for all combinations of several wrong arguments.
SOME_CAPACITIES = [0, -3, True, "2", None]
SOME_SHELVES = [["a"], ("a", "a"), ("A",), None, "ab"]
SOME_LOGS = [(), [("out", "a")], [["miss", "a"]], None, "-a"]
SOME_HISTORIES = [["a"], (), None, ["A"], "a"]
SOME_PAGES = ["", "A", None, ("a",)]
SOME_MOMENTS = [-1, 6, True, None, "2", 2.0]


class Wrong(unittest.TestCase):
    def expect(self, error, function, *arguments):
        with self.assertRaises(error) as caught:
            function(*arguments)
        self.assertIs(type(caught.exception), error)


class OneWrongArgument(Wrong):
    def test_capacity(self):
        for function in WITH_CAPACITY:
            for capacity in WRONG_CAPACITIES:
                with self.subTest(function=function, capacity=capacity):
                    self.expect(InvalidCapacity, function, capacity, (), LOG)

    def test_shelf(self):
        for function in WITH_CAPACITY:
            for start in WRONG_SHELVES:
                with self.subTest(function=function, start=start):
                    self.expect(InvalidShelf, function, 40, start, LOG)
        for function in WITHOUT_CAPACITY:
            for start in WRONG_SHELVES:
                with self.subTest(function=function, start=start):
                    self.expect(InvalidShelf, function, start, LOG)

    def test_more_pages_than_the_capacity(self):
        for function in WITH_CAPACITY:
            self.expect(InvalidShelf, function, 1, ("a", "b"), [])
            self.expect(InvalidShelf, function, 2, ("a", "b", "c"), LOG)
            self.expect(InvalidShelf, function, 40, tuple(a + b for a in "abcdefg" for b in "abcdef")[:41], LOG)

    def test_as_many_pages_as_the_capacity(self):
        self.assertEqual(sizes(2, ("a", "b"), []), [2])
        self.assertEqual(evicting_misses(2, ("a", "b"), []), [])
        self.assertEqual(held_counts(2, ("a", "b"), []), [])
        self.assertEqual(replay(2, ("a", "b"), [], []), [("a", "b")])

    def test_gaps_know_no_capacity(self):
        start = tuple(one + two for one in "abcdefghij" for two in "abcdefghij")
        self.assertEqual(len(gaps(start, [])), 100)

    def test_log(self):
        for function in WITH_CAPACITY:
            for log in WRONG_LOGS:
                with self.subTest(function=function, log=log):
                    self.expect(InvalidLog, function, 2, ("a",), log)
        for function in WITHOUT_CAPACITY:
            for log in WRONG_LOGS:
                with self.subTest(function=function, log=log):
                    self.expect(InvalidLog, function, ("a",), log)

    def test_an_invalid_event_at_any_index_of_a_long_log(self):
        right = [("miss", "a"), ("miss", "b")] * 65
        for index in range(130):
            for event in (("out", "a"), ("miss", "A"), ["miss", "a"], ("miss",), ("miss", "a", "a"), None):
                log = right[:index] + [event] + right[index + 1:]
                for function in WITH_CAPACITY:
                    self.expect(InvalidLog, function, 1, (), log)
                for function in WITHOUT_CAPACITY:
                    self.expect(InvalidLog, function, (), log)

    def test_a_log_after_an_impossible_event(self):
        for function in WITH_CAPACITY:
            self.expect(InvalidLog, function, 2, (), [("hit", "a"), None])
        for function in WITHOUT_CAPACITY:
            self.expect(InvalidLog, function, (), [("hit", "a"), None])

    def test_history(self):
        for evicted in SOME_HISTORIES:
            self.expect(InvalidHistory, replay, 2, (), LOG, evicted)


class SeveralWrongArguments(Wrong):
    def check(self, function, choices):
        """Call with all combinations of the choices (error, value); the first error must come."""
        for chosen in product(*choices):
            named = [error for error, value in chosen if error is not None]
            if named:
                with self.subTest(function=function, chosen=chosen):
                    self.expect(named[0], function, *[value for error, value in chosen])

    def choices(self, right, error, wrong):
        return [(None, right)] + [(error, value) for value in wrong]

    def test_capacity_shelf_log(self):
        choices = [
            self.choices(2, InvalidCapacity, SOME_CAPACITIES),
            self.choices(("a",), InvalidShelf, SOME_SHELVES + [("a", "b", "c")]),
            self.choices(LOG, InvalidLog, SOME_LOGS),
        ]
        for function in ONLY_WITH_CAPACITY:
            self.check(function, choices)

    def test_capacity_shelf_log_history(self):
        choices = [
            self.choices(2, InvalidCapacity, SOME_CAPACITIES),
            self.choices((), InvalidShelf, SOME_SHELVES + [("a", "b", "c")]),
            self.choices(LOG, InvalidLog, SOME_LOGS),
            self.choices([], InvalidHistory, SOME_HISTORIES),
        ]
        self.check(replay, choices)

    def test_capacity_shelf_log_times(self):
        choices = [
            self.choices(2, InvalidCapacity, SOME_CAPACITIES),
            self.choices((), InvalidShelf, SOME_SHELVES + [("a", "b", "c")]),
            self.choices(LOG, InvalidLog, SOME_LOGS),
            self.choices(0, InvalidTimes, [-1, True, None, "2", 2.0, [2]]),
        ]
        self.check(is_possible_repeated, choices)

    def test_shelf_log(self):
        choices = [
            self.choices(("a",), InvalidShelf, SOME_SHELVES),
            self.choices(LOG, InvalidLog, SOME_LOGS),
        ]
        for function in WITHOUT_CAPACITY:
            self.check(function, choices)

    def test_too_many_pages_come_before_the_log(self):
        for function in WITH_CAPACITY:
            self.expect(InvalidShelf, function, 1, ("a", "b"), [("out", "a")])
            self.expect(InvalidCapacity, function, 0, ("a", "b"), [("out", "a")])


class NotPossibleComesLast(Wrong):
    """Both logs have an evicting miss at 2 and the end of a released gap at 3, but one is not possible."""

    right = [("miss", "a"), ("miss", "b"), ("miss", "c"), ("miss", "a"), ("hit", "a")]
    impossible = [("miss", "a"), ("miss", "b"), ("miss", "c"), ("miss", "a"), ("hit", "z")]

    def check(self, function, *more):
        """Try all combinations of right and wrong arguments; more are the choices behind the log."""
        choices = [
            [(None, 2)] + [(InvalidCapacity, value) for value in SOME_CAPACITIES],
            [(None, ())] + [(InvalidShelf, value) for value in SOME_SHELVES + [("a", "b", "c")]],
            [(None, self.right), (NotPossible, self.impossible)] + [(InvalidLog, value) for value in SOME_LOGS],
            *more,
        ]
        for chosen in product(*choices):
            named = [error for error, value in chosen if error is not None]
            # NotPossible is the last condition of each of these functions, though the log is not the last argument.
            named.sort(key=lambda error: error is NotPossible)
            arguments = [value for error, value in chosen]
            if named:
                with self.subTest(function=function, chosen=chosen):
                    self.expect(named[0], function, *arguments)
            else:
                function(*arguments)

    def test_page(self):
        self.check(next_marks, [(None, "a"), (None, "zz")] + [(InvalidPage, value) for value in SOME_PAGES])

    def test_page_and_moment(self):
        pages = [(None, "a")] + [(InvalidPage, value) for value in SOME_PAGES]
        moments = [(None, 0), (None, 5)] + [(InvalidMoment, value) for value in SOME_MOMENTS]
        self.check(presence, pages, moments)

    def test_moment(self):
        moments = [(None, 0), (None, 5)] + [(InvalidMoment, value) for value in SOME_MOMENTS]
        self.check(certain_pages, moments)
        self.check(possible_pages, moments)

    def test_index(self):
        wrong = [(InvalidIndex, value) for value in (-1, 0, 4, 5, True, None, "2", 2.0, [2])]
        self.check(candidates, [(None, 2), (None, 3)] + wrong)
        self.check(eviction_range, [(None, 3)] + wrong + [(InvalidIndex, 2)])

    def test_nothing_else(self):
        self.check(known_evictions)
        self.check(count_finals)

    def test_pages(self):
        pages = [(None, ()), (None, ("b", "a"))] + [(InvalidPages, value) for value in SOME_SHELVES]
        self.check(can_be_final, pages)
        self.check(why_not_final, pages)
        self.check(rank_final, [(None, ("c", "a"))] + [(InvalidPages, value) for value in SOME_SHELVES])

    def test_an_integer(self):
        self.check(nth_final, [(None, 0)] + [(InvalidIndex, value) for value in (-1, True, None, "2", 2.0, [2])])

    def test_observations(self):
        wrong = [None, (), [(0, "a")], [(6, "a", True)], [(0, "A", True)], [(0, "a", 0)], [(True, "a", False)]]
        choices = [(None, []), (None, [(0, "a", True)])] + [(InvalidObservations, value) for value in wrong]
        self.check(first_conflict, choices)
        self.check(observed_history, choices)


class ErrorsBehindNotPossible(Wrong):
    right = NotPossibleComesLast.right
    impossible = NotPossibleComesLast.impossible

    def test_an_index_that_is_too_large(self):
        self.assertEqual(count_finals(2, (), self.right), 2)
        for index in (2, 10**44):
            self.expect(NotPossible, nth_final, 2, (), self.impossible, index)
            self.expect(InvalidIndex, nth_final, 2, (), self.right, index)
        self.expect(InvalidIndex, nth_final, 2, (), self.impossible, -1)

    def test_pages_that_are_not_final(self):
        for pages in ((), ("a",), ("b", "c"), ("a", "z"), ("a", "b", "c")):
            self.expect(NotPossible, rank_final, 2, (), self.impossible, pages)
            self.expect(NotFinal, rank_final, 2, (), self.right, pages)
        self.expect(InvalidPages, rank_final, 2, (), self.impossible, ("a", "a"))


class HistoriesOfImpossibleLogs(Wrong):
    def test_no_index_and_no_history(self):
        log = [("miss", "a"), ("miss", "a")]
        self.assertEqual(count_histories(2, (), log), 0)
        self.expect(InvalidIndex, nth_history, 2, (), log, 0)
        self.expect(InvalidHistory, rank_history, 2, (), log, [])


class ImpossibleLogsWithoutAnError(Wrong):
    def test_functions_that_tell_whether_a_log_is_possible(self):
        log = [("hit", "a")]
        self.assertIs(is_possible(2, (), log), False)
        self.assertEqual(why_not(2, (), log), ("first", 0))
        self.assertIs(is_reason(2, (), log, ("first", 0)), True)
        self.assertIs(history(2, (), log), None)
        self.assertEqual(first_impossible(2, (), log), 0)
        self.assertIs(capacities((), log), None)


if __name__ == "__main__":
    unittest.main()
