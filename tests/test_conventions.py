"""Tests of [1] and [2]: what the functions do with arguments and with what they return."""

import copy
import inspect
import unittest

from hitlog.capacities import capacities, next_marks
from hitlog.counting import count_histories, nth_history, rank_history
from hitlog.errors import ShelfError
from hitlog.evictions import candidates, eviction_range, known_evictions
from hitlog.finals import can_be_final, count_finals, nth_final, rank_final, why_not_final
from hitlog.gaps import gaps, held_counts
from hitlog.logs import evicting_misses, is_log, is_shelf, replay, sizes
from hitlog.observations import first_conflict, observed_history
from hitlog.possible import first_impossible, history, is_possible, is_reason, why_not
from hitlog.presence import certain_pages, possible_pages, presence
from hitlog.repeats import is_possible_repeated, most_repeats
from hitlog.rules import first_difference, rule_evictions, rule_log
from hitlog.texts import format_log, format_shelf, parse_log, parse_shelf
from tests.values import WRONG_LOGS, WRONG_SHELVES

START = ("b", "a")
LOG = [("miss", "c"), ("hit", "a"), ("miss", "b"), ("miss", "d"), ("hit", "a")]
EVICTED = ["b", "c", "b"]
THREE = {"capacity": 2, "start": START, "log": LOG}
REQUESTS = ["c", "b", "c"]
OBSERVATIONS = [(4, "a", True), (3, "b", True), (1, "b", False)]

# Each function with its file and its arguments by name; LOG is possible for capacity 2 and START.
CALLS = [
    (is_shelf, "hitlog.logs", {"value": START}),
    (is_log, "hitlog.logs", {"value": LOG}),
    (sizes, "hitlog.logs", THREE),
    (evicting_misses, "hitlog.logs", THREE),
    (replay, "hitlog.logs", {**THREE, "evicted": EVICTED}),
    (gaps, "hitlog.gaps", {"start": START, "log": LOG}),
    (held_counts, "hitlog.gaps", THREE),
    (is_possible, "hitlog.possible", THREE),
    (why_not, "hitlog.possible", THREE),
    (is_reason, "hitlog.possible", {**THREE, "value": ("held", 0)}),
    (history, "hitlog.possible", THREE),
    (first_impossible, "hitlog.possible", THREE),
    (capacities, "hitlog.capacities", {"start": START, "log": LOG}),
    (next_marks, "hitlog.capacities", {**THREE, "page": "b"}),
    (presence, "hitlog.presence", {**THREE, "page": "a", "moment": 3}),
    (certain_pages, "hitlog.presence", {**THREE, "moment": 5}),
    (possible_pages, "hitlog.presence", {**THREE, "moment": 0}),
    (candidates, "hitlog.evictions", {**THREE, "index": 2}),
    (known_evictions, "hitlog.evictions", THREE),
    (eviction_range, "hitlog.evictions", {**THREE, "index": 2}),
    (can_be_final, "hitlog.finals", {**THREE, "pages": ("a", "d")}),
    (why_not_final, "hitlog.finals", {**THREE, "pages": ("b", "a")}),
    (count_finals, "hitlog.finals", THREE),
    (nth_final, "hitlog.finals", {**THREE, "index": 0}),
    (rank_final, "hitlog.finals", {**THREE, "pages": ("a", "d")}),
    (first_conflict, "hitlog.observations", {**THREE, "observations": OBSERVATIONS + [(5, "d", False)]}),
    (observed_history, "hitlog.observations", {**THREE, "observations": OBSERVATIONS}),
    (count_histories, "hitlog.counting", THREE),
    (nth_history, "hitlog.counting", {**THREE, "index": 0}),
    (rank_history, "hitlog.counting", {**THREE, "evicted": EVICTED}),
    (most_repeats, "hitlog.repeats", THREE),
    (is_possible_repeated, "hitlog.repeats", {**THREE, "times": 2}),
    (rule_log, "hitlog.rules", {"rule": "LRU", "capacity": 2, "start": START, "requests": REQUESTS}),
    (rule_evictions, "hitlog.rules", {"rule": "OPT", "capacity": 2, "start": START, "requests": REQUESTS}),
    (first_difference, "hitlog.rules", {"rule": "FIFO", **THREE}),
    (format_log, "hitlog.texts", {"log": LOG}),
    (format_shelf, "hitlog.texts", {"shelf": START}),
    (parse_log, "hitlog.texts", {"text": "+c -ab"}),
    (parse_shelf, "hitlog.texts", {"text": "c ab"}),
]
EXPECTED = {
    "is_shelf": True,
    "is_log": True,
    "sizes": [2, 2, 2, 2, 2, 2],
    "evicting_misses": [0, 2, 3],
    "replay": [("a", "b"), ("a", "c"), ("a", "c"), ("a", "b"), ("a", "d"), ("a", "d")],
    "gaps": [
        ("b", -1, 2, "released"),
        ("a", -1, 1, "held"),
        ("c", 0, None, "open"),
        ("a", 1, 4, "held"),
        ("b", 2, None, "open"),
        ("d", 3, None, "open"),
        ("a", 4, None, "open"),
    ],
    "held_counts": [(0, 1), (2, 1), (3, 1)],
    "is_possible": True,
    "why_not": None,
    "is_reason": False,
    "history": ["b", "c", "b"],
    "first_impossible": None,
    "capacities": (2, 2),
    "next_marks": ["miss"],
    "presence": "always",
    "certain_pages": ("a", "d"),
    "possible_pages": ("a", "b"),
    "candidates": ["c"],
    "known_evictions": [(0, "b"), (2, "c"), (3, "b")],
    "eviction_range": (0, 0),
    "can_be_final": True,
    "why_not_final": ("held", 3),
    "count_finals": 1,
    "nth_final": ("d", "a"),
    "rank_final": 0,
    "first_conflict": 3,
    "observed_history": ["b", "c", "b"],
    "count_histories": 1,
    "nth_history": ["b", "c", "b"],
    "rank_history": 0,
    "most_repeats": None,
    "is_possible_repeated": True,
    "rule_log": [("miss", "c"), ("miss", "b"), ("hit", "c")],
    "rule_evictions": ["a"],
    "first_difference": 4,
    "format_log": "-c +a -b -d +a",
    "format_shelf": "b a",
    "parse_log": [("hit", "c"), ("miss", "ab")],
    "parse_shelf": ("c", "ab"),
}
LISTS = [(function, arguments) for function, _, arguments in CALLS if isinstance(EXPECTED[function.__name__], list)]


class Interface(unittest.TestCase):
    def test_each_function_is_defined_in_its_file(self):
        for function, file, _ in CALLS:
            self.assertTrue(inspect.isfunction(function), function)
            self.assertEqual(function.__module__, file)

    def test_the_parameters_have_their_names(self):
        for function, _, arguments in CALLS:
            self.assertEqual(list(inspect.signature(function).parameters), list(arguments), function)

    def test_by_position(self):
        for function, _, arguments in CALLS:
            self.assertEqual(function(*arguments.values()), EXPECTED[function.__name__], function)

    def test_by_name_in_any_order(self):
        for function, _, arguments in CALLS:
            self.assertEqual(function(**arguments), EXPECTED[function.__name__], function)
            turned = dict(reversed(list(arguments.items())))
            self.assertEqual(function(**turned), EXPECTED[function.__name__], function)

    def test_by_position_and_by_name(self):
        for function, _, arguments in CALLS:
            values = list(arguments.values())
            rest = dict(list(arguments.items())[1:])
            self.assertEqual(function(values[0], **rest), EXPECTED[function.__name__], function)


class Arguments(unittest.TestCase):
    def test_they_are_the_same_after_the_call(self):
        for function, _, arguments in CALLS:
            before = copy.deepcopy(arguments)
            function(**arguments)
            self.assertEqual(arguments, before, function)

    def test_they_are_the_same_after_an_error(self):
        log = [("miss", "a"), ("miss", "b"), ("miss", "c")]
        for evicted in (["c"], ["b", "a"], [], ["A"], [["a"]]):
            given, pages = copy.deepcopy(log), copy.deepcopy(evicted)
            with self.assertRaises(ShelfError):
                replay(2, (), given, pages)
            self.assertEqual((given, pages), (log, evicted))

    def test_they_are_the_same_after_other_errors(self):
        log = [("miss", "a"), ("miss", "b"), ("hit", "z")]
        given = copy.deepcopy(log)
        for function, more in (
            (next_marks, ["A"]),
            (next_marks, ["a"]),
            (presence, ["a", 4]),
            (presence, ["a", 3]),
            (certain_pages, [None]),
            (possible_pages, [3]),
            (candidates, [[0]]),
            (known_evictions, []),
            (eviction_range, [{}]),
            (why_not_final, [("a", ["b"])]),
            (rank_final, [("b", "a")]),
            (nth_final, [[]]),
            (first_conflict, [[(3, "a", True), (0, "a", False), (1, "b", 1)]]),
            (observed_history, [[(2, "a", True), (0, "a", False)]]),
            (nth_history, [7]),
            (rank_history, [["b", "a"]]),
            (is_possible_repeated, [-1]),
            (is_possible_repeated, [[]]),
        ):
            before = copy.deepcopy(more)
            with self.assertRaises(ShelfError):
                function(2, ("x",), given, *more)
            self.assertEqual((given, more), (log, before))

    def test_wrong_values_are_the_same_after_the_question(self):
        for question, values in ((is_shelf, WRONG_SHELVES), (is_log, WRONG_LOGS)):
            for value in values:
                if isinstance(value, (list, dict, tuple)):
                    before = repr(value)
                    question(value)
                    self.assertEqual(repr(value), before)

    def test_their_order_is_kept(self):
        start, log = ("d", "b", "a"), [("miss", "c"), ("miss", "aa")]
        evicted = ["d", "b"]
        replay(3, start, log, evicted)
        gaps(start, log)
        self.assertEqual(start, ("d", "b", "a"))
        self.assertEqual(log, [("miss", "c"), ("miss", "aa")])
        self.assertEqual(evicted, ["d", "b"])

    def test_equal_arguments_give_equal_results(self):
        for function, _, arguments in CALLS:
            self.assertEqual(function(**copy.deepcopy(arguments)), function(**arguments), function)


class ReturnedLists(unittest.TestCase):
    def test_two_calls_give_two_lists(self):
        for function, arguments in LISTS:
            first, second = function(**arguments), function(**arguments)
            self.assertIs(type(first), list)
            self.assertEqual(first, second)
            self.assertIsNot(first, second, function)

    def test_empty_lists_are_new_too(self):
        for function, arguments in (
            (evicting_misses, (2, (), [])),
            (held_counts, (2, (), [])),
            (gaps, ((), [])),
            (history, (2, (), [])),
            (known_evictions, (2, (), [])),
            (observed_history, (2, (), [], [])),
            (nth_history, (2, (), [], 0)),
            (rule_log, ("LRU", 2, (), [])),
            (rule_evictions, ("OPT", 2, (), [])),
            (parse_log, ("",)),
        ):
            first, second = function(*arguments), function(*arguments)
            self.assertEqual((first, second), ([], []))
            self.assertIsNot(first, second, function)
            first.append("x")
            self.assertEqual(function(*arguments), [], function)

    def test_no_argument_is_returned(self):
        for function, arguments in LISTS:
            found = function(**arguments)
            for value in arguments.values():
                self.assertIsNot(found, value, function)
        log, evicted = [], []
        for found in (evicting_misses(1, (), log), held_counts(1, (), log), gaps((), log)):
            self.assertIsNot(found, log)
        for found in (history(1, (), log), known_evictions(1, (), log)):
            self.assertIsNot(found, log)
        self.assertIsNot(replay(1, (), log, evicted), evicted)
        observations = []
        self.assertIsNot(observed_history(1, (), log, observations), observations)
        self.assertIsNot(nth_history(1, (), log, 0), log)
        self.assertIsNot(rule_log("LRU", 1, (), log), log)
        self.assertIsNot(rule_evictions("FIFO", 1, (), log), log)

    def test_a_changed_list_has_no_effect(self):
        for function, arguments in LISTS:
            function(**arguments).clear()
            function(**arguments).append("x")
            function(**arguments).reverse()
            self.assertEqual(function(**arguments), EXPECTED[function.__name__], function)


class ChangedArguments(unittest.TestCase):
    def test_an_earlier_result_stays(self):
        for function, arguments in LISTS:
            given = copy.deepcopy(arguments)
            found = function(**given)
            for value in given.values():
                if isinstance(value, list):
                    value.clear()
            self.assertEqual(found, EXPECTED[function.__name__], function)

    def test_a_log_changed_in_place_is_read_anew(self):
        log = [("miss", "a"), ("miss", "b"), ("miss", "c")]
        self.assertEqual(sizes(2, (), log), [0, 1, 2, 2])
        self.assertEqual(evicting_misses(2, (), log), [2])
        self.assertEqual(held_counts(2, (), log), [(2, 0)])
        self.assertEqual(replay(2, (), log, ["b"])[-1], ("a", "c"))
        self.assertEqual(gaps((), log), [("a", 0, None, "open"), ("b", 1, None, "open"), ("c", 2, None, "open")])
        log.append(("hit", "a"))
        self.assertEqual(sizes(2, (), log), [0, 1, 2, 2, 2])
        self.assertEqual(evicting_misses(2, (), log), [2])
        self.assertEqual(held_counts(2, (), log), [(2, 1)])
        self.assertEqual(replay(2, (), log, ["b"])[-1], ("a", "c"))
        self.assertEqual(gaps((), log)[0], ("a", 0, 3, "held"))
        log[1:] = [("hit", "a")]
        self.assertEqual(sizes(2, (), log), [0, 1, 1])
        self.assertEqual(evicting_misses(2, (), log), [])
        self.assertEqual(held_counts(2, (), log), [])
        self.assertEqual(replay(2, (), log, []), [(), ("a",), ("a",)])
        self.assertEqual(gaps((), log), [("a", 0, 1, "held"), ("a", 1, None, "open")])

    def test_a_log_changed_in_place_gives_other_answers(self):
        log = [("miss", "a"), ("miss", "b"), ("miss", "c")]
        self.assertEqual(candidates(2, (), log, 2), ["a", "b"])
        self.assertEqual(presence(2, (), log, "a", 3), "sometimes")
        self.assertEqual(next_marks(2, (), log, "b"), ["hit", "miss"])
        self.assertEqual(history(2, (), log), ["a"])
        log.append(("hit", "a"))
        self.assertEqual(candidates(2, (), log, 2), ["b"])
        self.assertEqual(presence(2, (), log, "a", 3), "always")
        self.assertEqual(next_marks(2, (), log, "b"), ["miss"])
        self.assertEqual(history(2, (), log), ["b"])
        self.assertEqual(known_evictions(2, (), log), [(2, "b")])
        self.assertEqual(capacities((), log), (2, None))
        log.append(("hit", "b"))
        self.assertIs(is_possible(2, (), log), False)
        self.assertEqual(why_not(2, (), log), ("held", 2))
        self.assertEqual(first_impossible(2, (), log), 4)
        self.assertIs(history(2, (), log), None)
        self.assertEqual(capacities((), log), (3, None))
        log[:] = [("miss", "a"), ("miss", "b"), ("miss", "a")]
        self.assertEqual(eviction_range(1, (), log, 2), (1, 1))
        self.assertEqual(certain_pages(1, (), log, 2), ("b",))
        self.assertEqual(possible_pages(1, (), log, 3), ("a",))

    def test_a_log_changed_in_place_has_other_histories(self):
        log = [("miss", "a"), ("miss", "b"), ("miss", "c")]
        self.assertEqual([nth_final(2, (), log, index) for index in range(2)], [("a", "c"), ("b", "c")])
        self.assertEqual(rank_final(2, (), log, ("c", "b")), 1)
        self.assertEqual([nth_history(2, (), log, index) for index in range(2)], [["a"], ["b"]])
        self.assertEqual(rank_history(2, (), log, ["b"]), 1)
        log.append(("hit", "a"))
        self.assertEqual(count_finals(2, (), log), 1)
        self.assertEqual(nth_final(2, (), log, 0), ("c", "a"))
        self.assertEqual(why_not_final(2, (), log, ("c", "b")), ("held", 2))
        self.assertEqual(count_histories(2, (), log), 1)
        self.assertEqual(rank_history(2, (), log, ["b"]), 0)
        log[3] = ("miss", "a")
        self.assertIs(can_be_final(2, (), log, ("c", "a")), True)
        self.assertEqual(nth_history(2, (), log, 1), ["a", "c"])

    def test_observations_changed_in_place_are_read_anew(self):
        log, observations = [("miss", "a"), ("miss", "b"), ("miss", "c")], [(3, "a", True)]
        self.assertEqual(observed_history(2, (), log, observations), ["b"])
        observations[0] = (3, "a", False)
        self.assertEqual(observed_history(2, (), log, observations), ["a"])
        observations.append((3, "b", False))
        self.assertEqual(first_conflict(2, (), log, observations), 1)
        self.assertIs(observed_history(2, (), log, observations), None)
        observations.clear()
        self.assertIs(first_conflict(2, (), log, observations), None)

    def test_requests_changed_in_place_are_read_anew(self):
        requests = ["a", "b", "c"]
        self.assertEqual(rule_evictions("OPT", 2, (), requests), ["a"])
        requests.append("a")
        self.assertEqual(rule_evictions("OPT", 2, (), requests), ["b"])
        self.assertEqual(rule_log("OPT", 2, (), requests)[-1], ("hit", "a"))
        log = rule_log("OPT", 2, (), requests)
        self.assertIs(first_difference("OPT", 2, (), log), None)
        log[3] = ("miss", "a")
        self.assertEqual(first_difference("OPT", 2, (), log), 3)
        self.assertEqual(most_repeats(2, (), log), 1)
        self.assertEqual(format_log(log), "-a -b -c -a")
        log.pop()
        self.assertIs(is_possible_repeated(3, (), log, 2), False)

    def test_a_log_that_becomes_wrong_and_right_again(self):
        log = [("miss", "a"), ("miss", "b")]
        self.assertIs(is_log(log), True)
        log.append("c")
        self.assertIs(is_log(log), False)
        for function in (sizes, evicting_misses, held_counts, is_possible, why_not, history, known_evictions):
            with self.assertRaises(ShelfError):
                function(2, (), log)
        log.pop()
        self.assertIs(is_possible(2, (), log), True)
        self.assertIs(is_log(log), True)
        self.assertEqual(sizes(2, (), log), [0, 1, 2])

    def test_a_history_changed_in_place_is_read_anew(self):
        log, evicted = [("miss", "a"), ("miss", "b"), ("miss", "c")], ["a"]
        self.assertEqual(replay(2, (), log, evicted)[-1], ("b", "c"))
        evicted[0] = "b"
        self.assertEqual(replay(2, (), log, evicted)[-1], ("a", "c"))
        evicted.append("a")
        with self.assertRaises(ShelfError):
            replay(2, (), log, evicted)

    def test_the_order_of_calls_has_no_effect(self):
        first = [function(**arguments) for function, _, arguments in CALLS]
        second = [function(**arguments) for function, _, arguments in reversed(CALLS)]
        self.assertEqual(first, second[::-1])


if __name__ == "__main__":
    unittest.main()
