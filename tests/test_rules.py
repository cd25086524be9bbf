"""Tests of [29]: what the rules of eviction do."""

import time
import unittest
from itertools import product
from random import Random

from hitlog.errors import InvalidCapacity, InvalidLog, InvalidRequests, InvalidRule, InvalidShelf
from hitlog.logs import replay
from hitlog.possible import is_possible
from hitlog.rules import first_difference, rule_evictions, rule_log
from tests import oracle
from tests.logs import NAMES
from tests.values import (
    NO_PAGES,
    ODD_VALUES,
    RIGHT_PAGES,
    WRONG_CAPACITIES,
    WRONG_LOGS,
    WRONG_PAGES,
    WRONG_SHELVES,
    Refusing,
)

RULES = ("LRU", "FIFO", "OPT")
WRONG_RULES = ["lru", "fifo", "opt", "Lru", "LRU ", " LRU", "LR", "LRUU", "", "MRU", "LFU", "LRU,FIFO", "FIFOPT", "RU"]
WRONG_RULES += ["F", "O", b"LRU", ("LRU",), ["LRU"], {"LRU": 1}, {"LRU"}, Refusing()] + ODD_VALUES


def marks(log):
    return "".join({"hit": "+", "miss": "-"}[mark] for mark, _ in log)


def check_rule(test, rule, capacity, start, requests):
    """Compare with the words of the document, and with the rest of the package."""
    case = (rule, capacity, start, requests)
    log, evicted = oracle.rule_play(*case)
    test.assertEqual(rule_log(*case), log, case)
    test.assertEqual(rule_evictions(*case), evicted, case)
    test.assertIs(first_difference(rule, capacity, start, log), None, case)
    test.assertEqual(len(replay(capacity, start, log, evicted)), len(log) + 1, case)
    test.assertIs(is_possible(capacity, start, log), True, case)


class Rules(unittest.TestCase):
    def test_no_request(self):
        for rule in RULES:
            for capacity, start in ((1, ()), (2, ("b", "a")), (40, tuple(NAMES[:40]))):
                self.assertEqual(rule_log(rule, capacity, start, []), [])
                self.assertEqual(rule_evictions(rule, capacity, start, []), [])
                self.assertIs(first_difference(rule, capacity, start, []), None)

    def test_without_an_eviction(self):
        for rule in RULES:
            log = rule_log(rule, 3, ("x",), ["a", "x", "a", "b", "x"])
            self.assertEqual(log, [("miss", "a"), ("hit", "x"), ("hit", "a"), ("miss", "b"), ("hit", "x")])
            self.assertEqual(rule_evictions(rule, 3, ("x",), ["a", "x", "a", "b", "x"]), [])

    def test_capacity_one(self):
        for rule in RULES:
            self.assertEqual(marks(rule_log(rule, 1, ("x",), list("xaabxx"))), "+-+--+")
            self.assertEqual(rule_evictions(rule, 1, ("x",), list("xaabxx")), ["x", "a", "b"])

    def test_a_hit_counts_for_lru_and_not_for_fifo(self):
        self.assertEqual(rule_evictions("LRU", 2, (), list("abac")), ["b"])
        self.assertEqual(rule_evictions("FIFO", 2, (), list("abac")), ["a"])
        self.assertEqual(rule_evictions("LRU", 2, ("a", "b"), list("ac")), ["b"])
        self.assertEqual(rule_evictions("FIFO", 2, ("a", "b"), list("ac")), ["a"])

    def test_the_order_of_the_start(self):
        for rule in RULES:
            self.assertEqual(rule_evictions(rule, 3, ("c", "a", "b"), list("xyz")), ["c", "a", "b"])
            self.assertEqual(rule_evictions(rule, 3, ("b", "a"), list("xyzu")), ["b", "a", "x"])

    def test_fifo_counts_from_the_latest_addition(self):
        self.assertEqual(rule_evictions("FIFO", 2, (), list("abcab")), ["a", "b", "c"])
        self.assertEqual(rule_evictions("FIFO", 2, (), list("abcad")), ["a", "b", "c"])
        self.assertEqual(rule_evictions("FIFO", 2, (), list("abcacad")), ["a", "b", "c"])
        self.assertEqual(rule_evictions("LRU", 2, (), list("abcacad")), ["a", "b", "c"])
        self.assertEqual(rule_evictions("LRU", 2, (), list("abcaccd")), ["a", "b", "a"])

    def test_opt_takes_the_latest_next_request(self):
        self.assertEqual(rule_evictions("OPT", 3, ("a", "b", "c"), list("xbca"))[0], "a")
        self.assertEqual(rule_evictions("OPT", 3, ("a", "b", "c"), list("xacba"))[0], "b")
        self.assertEqual(rule_evictions("OPT", 3, ("a", "b", "c"), list("xabac"))[0], "c")

    def test_opt_looks_behind_the_current_event(self):
        self.assertEqual(rule_evictions("OPT", 2, ("a", "b"), list("cbca"))[0], "a")
        self.assertEqual(rule_evictions("OPT", 2, ("a", "b"), list("bcab")), ["b", "c"])
        self.assertEqual(rule_evictions("OPT", 2, ("a", "b"), list("abcba")), ["a", "c"])

    def test_opt_takes_pages_that_are_not_requested_again_first(self):
        self.assertEqual(rule_evictions("OPT", 3, ("a", "b", "c"), list("xacaaa"))[0], "b")
        self.assertEqual(rule_evictions("OPT", 3, (), list("abcdb")), ["a"])

    def test_opt_takes_the_earliest_latest_occurrence_of_these(self):
        self.assertEqual(rule_evictions("OPT", 3, (), list("abcad")), ["b"])
        self.assertEqual(rule_evictions("OPT", 3, (), list("abcabde")), ["c", "a"])
        self.assertEqual(rule_evictions("OPT", 3, ("c", "b", "a"), list("cxyz")), ["b", "a", "c"])

    def test_the_requested_page_may_be_evicted_next(self):
        self.assertEqual(rule_evictions("OPT", 2, ("a", "b"), list("xyab")), ["b", "x", "y"])

    def test_the_rules_differ(self):
        requests = list("abcabdabcd")
        self.assertEqual(marks(rule_log("LRU", 3, (), requests)), "---++-++--")
        self.assertEqual(marks(rule_log("FIFO", 3, (), requests)), "---++-----")
        self.assertEqual(marks(rule_log("OPT", 3, (), requests)), "---++-++-+")

    def test_longer_pages(self):
        self.assertEqual(rule_log("LRU", 1, ("abcd",), ["abc", "abcd"]), [("miss", "abc"), ("miss", "abcd")])
        for page in RIGHT_PAGES:
            self.assertEqual(rule_log("OPT", 1, (), [page, page]), [("miss", page), ("hit", page)])


class FirstDifference(unittest.TestCase):
    def test_the_first_of_several(self):
        log = [("miss", "a"), ("miss", "b"), ("hit", "a"), ("miss", "c"), ("miss", "a"), ("miss", "b")]
        self.assertEqual(first_difference("LRU", 2, (), log), 4)
        self.assertIs(first_difference("FIFO", 2, (), log[:5]), None)
        self.assertEqual(first_difference("FIFO", 2, (), log[:5] + [("hit", "b")]), 5)

    def test_opt_knows_the_whole_log(self):
        log = [("miss", "a"), ("miss", "b"), ("miss", "c"), ("hit", "a")]
        self.assertIs(first_difference("OPT", 2, (), log), None)
        self.assertEqual(first_difference("OPT", 2, (), log + [("hit", "b")]), 4)
        self.assertEqual(first_difference("OPT", 2, (), log[:3] + [("miss", "a")]), 3)

    def test_logs_that_are_not_possible(self):
        self.assertEqual(first_difference("LRU", 2, (), [("hit", "a")]), 0)
        self.assertEqual(first_difference("OPT", 2, (), [("miss", "a"), ("miss", "a")]), 1)
        self.assertEqual(first_difference("FIFO", 1, ("x",), [("hit", "x"), ("miss", "x"), ("hit", "a")]), 1)

    def test_all_small_logs(self):
        for capacity, start, log in oracle.small_cases(3):
            for rule in RULES:
                played, _ = oracle.rule_play(rule, capacity, start, [page for _, page in log])
                differences = [index for index in range(len(log)) if played[index] != log[index]]
                expected = differences[0] if differences else None
                self.assertEqual(first_difference(rule, capacity, start, log), expected, (rule, capacity, start, log))


class AllRequests(unittest.TestCase):
    def test_few_requests(self):
        for many in range(6):
            for requests in product("abc", repeat=many):
                for start in oracle.STARTS:
                    for capacity in range(max(1, len(start)), 4):
                        for rule in RULES:
                            check_rule(self, rule, capacity, start, list(requests))

    def test_random_requests(self):
        random = Random(29)
        for seed in range(200):
            capacity = random.randrange(1, 9)
            start = tuple(random.sample(NAMES[:10], random.randrange(capacity + 1)))
            requests = [random.choice(NAMES[:random.randrange(2, 14)]) for _ in range(random.randrange(131))]
            for rule in RULES:
                check_rule(self, rule, capacity, start, requests)

    def test_no_history_has_fewer_misses_than_opt(self):
        for requests in product("abcd", repeat=6):
            for capacity in (1, 2, 3):
                log = rule_log("OPT", capacity, ("d",), list(requests))
                self.assertEqual(marks(log).count("-"), fewest_misses(capacity, ("d",), requests), (capacity, log))

    def test_large_shelves(self):
        random = Random(40)
        begun = time.perf_counter()
        for many in (41, 60, 130):
            for start in ((), tuple(NAMES[:40]), tuple(NAMES[140:160])):
                requests = [random.choice(NAMES[:many]) for _ in range(130)]
                for rule in RULES:
                    check_rule(self, rule, 40, start, requests)
                    check_rule(self, rule, 40, start, NAMES[:130])
        self.assertLess(time.perf_counter() - begun, 30)

    def test_a_capacity_that_has_many_digits(self):
        for rule in RULES:
            self.assertEqual(rule_evictions(rule, 10**44, ("x",), NAMES[:130]), [])


def fewest_misses(capacity, start, requests):
    """Return the smallest number of misses of any evictions."""
    fewest = {frozenset(start): 0}
    for page in requests:
        following = {}
        for now, many in fewest.items():
            for mark in ("hit", "miss"):
                for _, after in oracle.steps(capacity, now, mark, page):
                    misses = many + (mark == "miss")
                    following[after] = min(misses, following.get(after, misses))
        fewest = following
    return min(fewest.values())


class WrongArguments(unittest.TestCase):
    def expect(self, error, function, *arguments):
        with self.assertRaises(error) as caught:
            function(*arguments)
        self.assertIs(type(caught.exception), error)

    def test_rule(self):
        for rule in WRONG_RULES:
            for function in (rule_log, rule_evictions, first_difference):
                self.expect(InvalidRule, function, rule, 2, (), [])

    def test_capacity_and_shelf(self):
        for function in (rule_log, rule_evictions, first_difference):
            for rule in RULES:
                for capacity in WRONG_CAPACITIES:
                    self.expect(InvalidCapacity, function, rule, capacity, (), [])
                for start in WRONG_SHELVES:
                    self.expect(InvalidShelf, function, rule, 40, start, [])
                self.expect(InvalidShelf, function, rule, 2, ("a", "b", "c"), [])

    def test_requests(self):
        wrong = [("a", "b"), "ab", "a", {"a": "b"}, {"a"}, [["a"]], [("a",)], [("miss", "a")], [[]], [()], Refusing()]
        wrong += NO_PAGES + [["a", page] for page in WRONG_PAGES] + [[page, "a"] for page in WRONG_PAGES]
        for requests in wrong + [[Refusing()]]:
            for function in (rule_log, rule_evictions):
                for rule in RULES:
                    self.expect(InvalidRequests, function, rule, 2, ("a",), requests)

    def test_a_wrong_request_anywhere(self):
        for index in range(130):
            requests = NAMES[:index] + ["A"] + NAMES[index:129]
            self.expect(InvalidRequests, rule_log, "OPT", 2, (), requests)

    def test_log(self):
        for log in WRONG_LOGS + [["a", "b"], ["a"]]:
            self.expect(InvalidLog, first_difference, "LRU", 2, ("a",), log)

    def test_the_order_of_the_errors(self):
        rules = [(None, "LRU"), (None, "OPT")] + [(InvalidRule, value) for value in ("lru", None, 1, ("LRU",))]
        capacities = [(None, 2)] + [(InvalidCapacity, value) for value in (0, True, None, "2")]
        shelves = [(None, ("a",))] + [(InvalidShelf, value) for value in (["a"], ("a", "a"), ("a", "b", "c"), None)]
        requests = [(None, ["a"])] + [(InvalidRequests, value) for value in (("a",), ["A"], None, [("miss", "a")])]
        logs = [(None, [("hit", "a")])] + [(InvalidLog, value) for value in (["a"], (), None, [("out", "a")])]
        for function, last in ((rule_log, requests), (rule_evictions, requests), (first_difference, logs)):
            for chosen in product(rules, capacities, shelves, last):
                named = [error for error, _ in chosen if error is not None]
                if named:
                    self.expect(named[0], function, *[value for _, value in chosen])


if __name__ == "__main__":
    unittest.main()
