"""Tests of [5], [7] and [12]: replay of histories and of what is none."""

import unittest
from itertools import product

from hitlog.errors import InvalidHistory
from hitlog.logs import replay
from tests import oracle
from tests.values import ODD_VALUES, WRONG_PAGES

LOG = [("miss", "a"), ("miss", "b"), ("miss", "c"), ("hit", "a"), ("miss", "d")]


class Histories(unittest.TestCase):
    def test_no_event(self):
        self.assertEqual(replay(1, (), [], []), [()])
        self.assertEqual(replay(3, ("b", "a"), [], []), [("a", "b")])

    def test_no_eviction(self):
        log = [("miss", "b"), ("miss", "a"), ("hit", "b")]
        self.assertEqual(replay(2, (), log, []), [(), ("b",), ("a", "b"), ("a", "b")])
        self.assertEqual(replay(40, (), log, []), [(), ("b",), ("a", "b"), ("a", "b")])

    def test_only_hits_of_the_start(self):
        log = [("hit", "c"), ("hit", "a"), ("hit", "c")]
        self.assertEqual(replay(2, ("c", "a"), log, []), [("a", "c")] * 4)

    def test_evictions_in_order(self):
        self.assertEqual(
            replay(2, (), LOG, ["b", "c"]),
            [(), ("a",), ("a", "b"), ("a", "c"), ("a", "c"), ("a", "d")],
        )
        self.assertEqual(
            replay(2, (), LOG, ["b", "a"]),
            [(), ("a",), ("a", "b"), ("a", "c"), ("a", "c"), ("c", "d")],
        )

    def test_full_start(self):
        log = [("miss", "c"), ("miss", "b"), ("hit", "c")]
        self.assertEqual(
            replay(2, ("b", "a"), log, ["b", "a"]),
            [("a", "b"), ("a", "c"), ("b", "c"), ("b", "c")],
        )

    def test_capacity_one(self):
        log = [("miss", "a"), ("hit", "a"), ("miss", "b"), ("miss", "a")]
        self.assertEqual(replay(1, (), log, ["a", "b"]), [(), ("a",), ("a",), ("b",), ("a",)])

    def test_a_page_may_be_evicted_again(self):
        log = [("miss", "a"), ("miss", "b"), ("miss", "a"), ("miss", "b")]
        self.assertEqual(replay(1, (), log, ["a", "b", "a"]), [(), ("a",), ("b",), ("a",), ("b",)])

    def test_alphabetical_order_of_longer_pages(self):
        log = [("miss", "b"), ("miss", "ab"), ("miss", "aa"), ("miss", "a")]
        self.assertEqual(replay(4, (), log, [])[-1], ("a", "aa", "ab", "b"))

    def test_kinds_of_the_contents(self):
        contents = replay(2, ("b", "a"), [("miss", "c")], ["a"])
        self.assertIs(type(contents), list)
        for shelf in contents:
            self.assertIs(type(shelf), tuple)


class WrongHistories(unittest.TestCase):
    def refuse(self, capacity, start, log, evicted):
        with self.assertRaises(InvalidHistory) as caught:
            replay(capacity, start, log, evicted)
        self.assertIs(type(caught.exception), InvalidHistory)

    def test_another_kind_of_value(self):
        for value in ODD_VALUES + [("b", "c"), "bc", ["bc"], [["b", "c"]], (), {"b": 2, "c": 4}, {"b", "c"}]:
            with self.subTest(value=value):
                self.refuse(2, (), LOG, value)

    def test_another_kind_of_value_where_the_empty_list_is_a_history(self):
        for value in ODD_VALUES + [()]:
            with self.subTest(value=value):
                self.refuse(2, (), [("miss", "a")], value)
        self.assertEqual(replay(2, (), [("miss", "a")], []), [(), ("a",)])

    def test_entries_that_are_no_pages(self):
        for page in WRONG_PAGES:
            with self.subTest(page=page):
                self.refuse(2, (), LOG, [page, "c"])
                self.refuse(2, (), LOG, ["b", page])
                self.refuse(2, (), LOG, ["b", "c", page])
                self.refuse(2, (), LOG, [page])

    def test_too_few_or_too_many_pages(self):
        for evicted in ([], ["b"], ["c"], ["b", "c", "d"], ["b", "c", "a"], ["b", "c", "c"], ["b", "c", "a", "d"]):
            with self.subTest(evicted=evicted):
                self.refuse(2, (), LOG, evicted)

    def test_a_page_too_many_where_nothing_is_evicted(self):
        self.refuse(2, (), [("miss", "a")], ["a"])
        self.refuse(2, ("a",), [], ["a"])
        self.refuse(1, ("a",), [("hit", "a")], ["a"])

    def test_a_page_that_is_not_on_the_shelf(self):
        for evicted in (["b", "b"], ["b", "d"], ["c", "a"], ["d", "c"], ["x", "c"], ["b", "x"]):
            with self.subTest(evicted=evicted):
                self.refuse(2, (), LOG, evicted)

    def test_the_requested_page_is_not_evicted(self):
        self.refuse(1, (), [("miss", "a"), ("miss", "b")], ["b"])
        self.refuse(2, ("a", "b"), [("miss", "c")], ["c"])

    def test_a_later_hit_becomes_wrong(self):
        self.refuse(2, (), LOG, ["a", "b"])
        self.refuse(2, (), LOG, ["a", "c"])
        self.refuse(2, ("a", "b"), [("miss", "c"), ("miss", "d"), ("hit", "a")], ["b", "a"])

    def test_a_later_miss_becomes_wrong(self):
        log = [("miss", "a"), ("miss", "b"), ("miss", "c"), ("miss", "a")]
        self.refuse(2, (), log, ["b", "c"])
        self.refuse(2, (), log, ["b", "a"])
        self.assertEqual(replay(2, (), log, ["a", "b"])[-1], ("a", "c"))

    def test_the_order_of_the_pages_counts(self):
        log = [("miss", "a"), ("miss", "b"), ("miss", "c"), ("hit", "b"), ("miss", "d")]
        self.assertEqual(replay(2, (), log, ["a", "b"])[-1], ("c", "d"))
        self.refuse(2, (), log, ["b", "a"])

    def test_any_value_for_a_log_that_is_not_possible(self):
        cases = [
            (2, (), [("hit", "a")]),
            (2, ("a",), [("miss", "a")]),
            (2, ("a", "b"), [("miss", "a")]),
            (2, (), [("miss", "a"), ("miss", "b"), ("miss", "a")]),
            (2, ("x", "y"), [("miss", "a"), ("hit", "x"), ("hit", "y")]),
            (1, (), [("miss", "a"), ("miss", "b"), ("hit", "a")]),
        ]
        lists = [list(pages) for many in range(4) for pages in product("abxy", repeat=many)]
        for capacity, start, log in cases:
            for value in lists + ODD_VALUES:
                with self.subTest(log=log, value=value):
                    self.refuse(capacity, start, log, value)

    def test_the_empty_list(self):
        self.assertEqual(replay(1, ("a",), [("hit", "a")], []), [("a",), ("a",)])
        self.refuse(1, ("a",), [("miss", "b")], [])
        self.refuse(1, ("a",), [("hit", "b")], [])


class AllSmallCases(unittest.TestCase):
    def test_exactly_the_histories_are_replayed(self):
        lists = {many: [list(pages) for pages in product("abcx", repeat=many)] for many in range(5)}
        for capacity, start, log in oracle.small_cases(3):
            right = {tuple(evicted): contents for evicted, contents in oracle.replays(capacity, start, log)}
            needed = len(oracle.evicting_misses(capacity, start, log))
            wrong_length = [["a"] * many for many in (needed - 1, needed + 1) if many >= 0]
            for evicted in lists[needed] + wrong_length:
                self.check(capacity, start, log, evicted, right.get(tuple(evicted)))

    def check(self, capacity, start, log, evicted, contents):
        told = (capacity, start, log, evicted)
        if contents is not None:
            self.assertEqual(replay(*told), contents, told)
            return
        try:
            replay(*told)
        except InvalidHistory:
            return
        self.fail(told)

    def test_every_history_of_longer_logs(self):
        for capacity, start, log in oracle.small_cases(5, ("a", "b")):
            for evicted, contents in oracle.replays(capacity, start, log):
                self.assertEqual(replay(capacity, start, log, evicted), contents, (capacity, start, log, evicted))


if __name__ == "__main__":
    unittest.main()
