"""Tests of [17] and [18]: for which capacities a log is possible, and which marks may follow it."""

import unittest

from hitlog.capacities import capacities, next_marks
from hitlog.errors import InvalidLog, InvalidPage, InvalidShelf, NotPossible
from tests import oracle
from tests.logs import NAMES, played_cases, turning_log
from tests.values import RIGHT_PAGES, WRONG_LOGS, WRONG_PAGES, WRONG_SHELVES, Refusing


def misses(pages):
    return [("miss", page) for page in pages]


class Capacities(unittest.TestCase):
    def test_empty_log(self):
        self.assertEqual(capacities((), []), (1, None))
        self.assertEqual(capacities(("a",), []), (1, None))
        self.assertEqual(capacities(("b", "a"), []), (2, None))
        self.assertEqual(capacities(tuple(NAMES[:130]), []), (130, None))

    def test_only_hits(self):
        self.assertEqual(capacities(("b", "a"), [("hit", "a"), ("hit", "b")]), (2, None))

    def test_held_pages_need_room(self):
        self.assertEqual(capacities((), misses("ab") + [("hit", "a")]), (2, None))
        self.assertEqual(capacities((), misses("abc") + [("hit", "a"), ("hit", "b")]), (3, None))
        self.assertEqual(capacities(("x",), misses("ab") + [("hit", "x"), ("hit", "a")]), (3, None))

    def test_released_pages_need_evictions(self):
        self.assertEqual(capacities((), misses("aba")), (1, 1))
        self.assertEqual(capacities((), misses("abca")), (1, 2))
        self.assertEqual(capacities(("x", "y"), misses("ax")), (2, 2))
        self.assertEqual(capacities(("x", "y"), misses("abx")), (2, 3))

    def test_both(self):
        self.assertEqual(capacities((), misses("abca") + [("hit", "b")]), (2, 2))
        self.assertEqual(capacities((), misses("abcda") + [("hit", "b")]), (2, 3))

    def test_none(self):
        self.assertIs(capacities((), [("hit", "a")]), None)
        self.assertIs(capacities((), misses("aa")), None)
        self.assertIs(capacities(("a",), misses("a")), None)
        self.assertIs(capacities((), misses("aba") + [("hit", "b")]), None)
        self.assertIs(capacities((), misses("abca") + [("hit", "b"), ("hit", "c")]), None)

    def test_a_start_that_is_too_large_for_the_rest(self):
        self.assertEqual(capacities(("x", "y", "z"), misses("abx")), (3, 4))
        self.assertEqual(capacities(("x", "y", "z"), misses("ax")), (3, 3))
        self.assertIs(capacities(("x", "y", "z"), misses("xa")), None)

    def test_more_than_40(self):
        log = [("miss", page) for page in NAMES[:100]] + [("miss", NAMES[0])]
        self.assertEqual(capacities((), log), (1, 99))
        log = [("miss", page) for page in NAMES[:65]] + [("hit", page) for page in NAMES[:65]]
        self.assertEqual(capacities((), log), (65, None))
        start = tuple(NAMES[100:150])
        self.assertEqual(capacities(start, misses("a")), (50, None))
        self.assertEqual(capacities(start, misses("a") + [("miss", NAMES[120])]), (50, 50))

    def test_pages_in_turn(self):
        for pages in (2, 3, 40, 41, 60):
            self.assertEqual(capacities((), turning_log(pages)), (1, pages - 1))

    def test_kinds_of_the_entries(self):
        found = capacities((), misses("aba"))
        self.assertEqual([type(found), type(found[0]), type(found[1])], [tuple, int, int])

    def test_all_small_cases(self):
        for log in oracle.small_logs(4):
            for start in oracle.STARTS:
                # With the last of these capacities nothing is evicted, as with all greater ones.
                tried = list(range(max(1, len(start)), len(start) + len(log) + 2))
                right = [capacity for capacity in tried if oracle.replays(capacity, start, log)]
                expected = (right[0], right[-1] if right[-1] < tried[-1] else None) if right else None
                self.assertEqual(capacities(start, log), expected, (start, log))
                if right:
                    self.assertEqual(right, list(range(right[0], right[-1] + 1)))

    def test_longer_logs(self):
        for _, start, log, _ in played_cases():
            log = log[:40]
            tried = list(range(max(1, len(start)), len(start) + len(log) + 2))
            right = [capacity for capacity in tried if not oracle.reasons(capacity, start, log)]
            expected = (right[0], right[-1] if right[-1] < tried[-1] else None) if right else None
            self.assertEqual(capacities(start, log), expected, (start, log))

    def test_wrong_arguments(self):
        for start in WRONG_SHELVES:
            for log in (misses("a"), [("hit", "z")], None):
                with self.subTest(start=start), self.assertRaises(InvalidShelf) as caught:
                    capacities(start, log)
                self.assertIs(type(caught.exception), InvalidShelf)
        for log in WRONG_LOGS:
            with self.subTest(log=log), self.assertRaises(InvalidLog) as caught:
                capacities(("a",), log)
            self.assertIs(type(caught.exception), InvalidLog)


class NextMarks(unittest.TestCase):
    def test_empty_log(self):
        self.assertEqual(next_marks(1, (), [], "a"), ["miss"])
        self.assertEqual(next_marks(1, ("a",), [], "a"), ["hit"])
        self.assertEqual(next_marks(1, ("a",), [], "b"), ["miss"])

    def test_a_page_that_does_not_occur(self):
        for page in RIGHT_PAGES:
            self.assertEqual(next_marks(2, ("qa",), misses(["qb", "qc"]), page), ["miss"])

    def test_a_page_of_the_start_that_is_never_requested(self):
        self.assertEqual(next_marks(2, ("x",), misses("a"), "x"), ["hit"])
        self.assertEqual(next_marks(2, ("x",), misses("ab"), "x"), ["hit", "miss"])
        self.assertEqual(next_marks(2, ("x",), misses("abcd"), "x"), ["hit", "miss"])
        self.assertEqual(next_marks(1, ("x",), misses("ab"), "x"), ["miss"])

    def test_the_latest_page(self):
        self.assertEqual(next_marks(2, (), misses("abc"), "c"), ["hit"])
        self.assertEqual(next_marks(2, (), misses("abc") + [("hit", "a")], "a"), ["hit"])
        self.assertEqual(next_marks(2, (), misses("abc") + [("hit", "a")], "b"), ["miss"])
        self.assertEqual(next_marks(2, (), misses("abc") + [("hit", "a")], "c"), ["hit"])

    def test_what_earlier_evictions_leave(self):
        self.assertEqual(next_marks(1, (), misses("ab"), "a"), ["miss"])
        self.assertEqual(next_marks(2, (), misses("abca"), "b"), ["hit", "miss"])
        self.assertEqual(next_marks(2, (), misses("abcab"), "b"), ["hit"])
        self.assertEqual(next_marks(2, (), misses("abcab"), "c"), ["hit", "miss"])
        self.assertEqual(next_marks(2, (), misses("abca") + [("hit", "c")], "b"), ["miss"])

    def test_the_log_is_longer_than_the_documented_limit(self):
        log = turning_log(41, 200)
        self.assertEqual(next_marks(40, (), log, NAMES[199 % 41]), ["hit"])
        self.assertEqual(next_marks(40, (), log, NAMES[200 % 41]), ["hit", "miss"])

    def test_all_small_cases(self):
        for capacity, start, log in oracle.small_cases(3):
            if oracle.replays(capacity, start, log):
                for page in ("a", "b", "x", "y"):
                    marks = [mark for mark in ("hit", "miss") if oracle.replays(capacity, start, log + [(mark, page)])]
                    self.assertEqual(next_marks(capacity, start, log, page), marks, (capacity, start, log, page))

    def test_longer_logs(self):
        for capacity, start, log, _ in played_cases():
            last = oracle.told_by_contents(capacity, start, log).shelves[-1]
            for page in NAMES[:capacity + 5]:
                marks = ["hit"] if any(page in shelf for shelf in last) else []
                marks += ["miss"] if any(page not in shelf for shelf in last) else []
                self.assertEqual(next_marks(capacity, start, log, page), marks, (capacity, start, log, page))

    def test_wrong_pages(self):
        for page in WRONG_PAGES + [Refusing()]:
            for log in ([], misses("ab"), [("hit", "a")]):
                with self.assertRaises(InvalidPage) as caught:
                    next_marks(2, (), log, page)
                self.assertIs(type(caught.exception), InvalidPage)

    def test_logs_that_are_not_possible(self):
        for log in ([("hit", "a")], misses("aa"), misses("abc") + [("hit", "a"), ("hit", "b")]):
            for page in ("a", "b", "z"):
                with self.assertRaises(NotPossible) as caught:
                    next_marks(2, (), log, page)
                self.assertIs(type(caught.exception), NotPossible)


if __name__ == "__main__":
    unittest.main()
