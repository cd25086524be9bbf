"""Tests of [23] and [24]: which pages can be on the shelf at the end, and in which order these contents are."""

import unittest
from itertools import combinations, permutations
from math import comb
from random import Random

from hitlog.errors import InvalidIndex, InvalidPages, NotFinal, NotPossible
from hitlog.finals import can_be_final, count_finals, nth_final, rank_final, why_not_final
from tests import oracle
from tests.logs import NAMES, played_cases, played_log, turning_log
from tests.values import NO_INTEGERS, WRONG_SHELVES, Refusing

LOG = [("miss", "a"), ("miss", "b"), ("miss", "c")]
IMPOSSIBLE = [[("hit", "z")], [("miss", "a"), ("miss", "a")], LOG + [("hit", "a"), ("hit", "b")]]


def misses(pages):
    return [("miss", page) for page in pages]


def all_finals(*case):
    return [nth_final(*case, index) for index in range(count_finals(*case))]


class CanBeFinal(unittest.TestCase):
    def test_empty_log(self):
        self.assertIs(can_be_final(1, (), [], ()), True)
        self.assertIs(can_be_final(1, (), [], ("a",)), False)
        self.assertIs(can_be_final(3, ("b", "a"), [], ("a", "b")), True)
        self.assertIs(can_be_final(3, ("b", "a"), [], ("b", "a")), True)
        self.assertIs(can_be_final(3, ("b", "a"), [], ("a",)), False)
        self.assertIs(can_be_final(3, ("b", "a"), [], ("a", "c")), False)

    def test_without_an_eviction(self):
        self.assertIs(can_be_final(3, (), LOG, ("b", "a", "c")), True)
        self.assertIs(can_be_final(40, (), LOG, ("c", "a", "b")), True)
        self.assertIs(can_be_final(3, (), LOG, ("a", "b")), False)
        self.assertIs(can_be_final(40, ("x",), LOG, ("a", "b", "c")), False)

    def test_capacity_one(self):
        self.assertIs(can_be_final(1, ("x",), LOG, ("c",)), True)
        for page in ("a", "b", "x", "z"):
            self.assertIs(can_be_final(1, ("x",), LOG, (page,)), False)

    def test_the_last_page_stays(self):
        self.assertIs(can_be_final(2, (), LOG, ("a", "c")), True)
        self.assertIs(can_be_final(2, (), LOG, ("c", "b")), True)
        self.assertIs(can_be_final(2, (), LOG, ("a", "b")), False)

    def test_held_pages_take_room(self):
        log = LOG + [("hit", "a"), ("miss", "d"), ("miss", "e")]
        self.assertIs(can_be_final(3, ("x",), log, ("a", "c", "e")), True)
        self.assertIs(can_be_final(3, ("x",), log, ("b", "x", "e")), False)
        self.assertIs(can_be_final(3, ("x",), log, ("x", "d", "e")), True)

    def test_a_page_of_the_start_that_is_never_requested(self):
        self.assertIs(can_be_final(2, ("x", "y"), misses("a"), ("x", "a")), True)
        self.assertIs(can_be_final(2, ("x", "y"), misses("ab"), ("x", "b")), True)
        self.assertIs(can_be_final(2, ("x", "y"), misses("ab"), ("x", "y")), False)

    def test_more_pages_than_the_capacity(self):
        self.assertIs(can_be_final(2, (), LOG, ("a", "b", "c")), False)
        self.assertIs(can_be_final(1, (), LOG, tuple(NAMES[:130])), False)

    def test_any_order_of_the_pages(self):
        log = misses("abcde") + [("hit", "c")]
        for pages in permutations(("c", "d", "e")):
            self.assertIs(can_be_final(3, (), log, pages), True)
        for pages in permutations(("a", "b", "e")):
            self.assertIs(can_be_final(3, (), log, pages), False)


class WhyNotFinal(unittest.TestCase):
    def test_none(self):
        self.assertIs(why_not_final(2, (), LOG, ("c", "a")), None)
        self.assertIs(why_not_final(1, (), [], ()), None)

    def test_the_size_comes_first(self):
        self.assertEqual(why_not_final(2, (), LOG, ()), ("size", 2))
        self.assertEqual(why_not_final(2, (), LOG, ("z",)), ("size", 2))
        self.assertEqual(why_not_final(2, (), LOG, ("a", "b", "c")), ("size", 2))
        self.assertEqual(why_not_final(5, ("x",), LOG, ("z", "a", "b")), ("size", 4))
        self.assertEqual(why_not_final(40, (), [], ("z",)), ("size", 0))

    def test_the_first_unknown_page_in_the_given_order(self):
        self.assertEqual(why_not_final(3, (), LOG + misses("d"), ("a", "z", "y")), ("unknown", "z"))
        self.assertEqual(why_not_final(3, (), LOG + misses("d"), ("y", "a", "z")), ("unknown", "y"))
        self.assertEqual(why_not_final(2, (), LOG, ("a", "aa")), ("unknown", "aa"))
        self.assertEqual(why_not_final(2, ("x",), [("hit", "x")] + misses("a"), ("y", "x")), ("unknown", "y"))

    def test_an_unknown_page_comes_before_a_crowded_miss(self):
        self.assertEqual(why_not_final(3, (), misses("abcd"), ("a", "b", "z")), ("unknown", "z"))

    def test_the_smallest_crowded_miss(self):
        self.assertEqual(why_not_final(2, (), LOG, ("a", "b")), ("held", 2))
        self.assertEqual(why_not_final(2, (), LOG + misses("d"), ("a", "b")), ("held", 2))
        self.assertEqual(why_not_final(2, (), LOG + misses("d"), ("a", "c")), ("held", 3))
        log = LOG + [("hit", "a"), ("miss", "d"), ("miss", "e")]
        self.assertEqual(why_not_final(3, ("x",), log, ("x", "b", "e")), ("held", 2))
        self.assertEqual(why_not_final(3, ("x",), log, ("a", "c", "d")), ("held", 5))

    def test_the_result_is_a_plain_tuple(self):
        for pages, kinds in (((), [str, int]), (("z", "a"), [str, str]), (("a", "b"), [str, int])):
            reason = why_not_final(2, (), LOG, pages)
            self.assertIs(type(reason), tuple)
            self.assertEqual([type(entry) for entry in reason], kinds)


class Numbers(unittest.TestCase):
    def test_one_final(self):
        self.assertEqual(all_finals(1, (), []), [()])
        self.assertEqual(all_finals(3, ("b", "a"), []), [("b", "a")])
        self.assertEqual(all_finals(1, ("x",), LOG), [("c",)])

    def test_pages_are_numbered_by_their_last_occurrence(self):
        self.assertEqual(all_finals(3, (), LOG), [("a", "b", "c")])
        self.assertEqual(all_finals(3, (), LOG + [("hit", "a")]), [("b", "c", "a")])
        self.assertEqual(all_finals(2, (), misses("cba")), [("c", "a"), ("b", "a")])

    def test_pages_that_occur_only_in_the_start_come_first(self):
        self.assertEqual(all_finals(4, ("y", "b", "x"), [("hit", "b"), ("miss", "a")]), [("y", "x", "b", "a")])
        self.assertEqual(
            all_finals(3, ("y", "b", "x"), [("hit", "b"), ("miss", "a")]),
            [("y", "x", "a"), ("y", "b", "a"), ("x", "b", "a")],
        )

    def test_the_order_is_not_that_of_the_names(self):
        self.assertEqual(all_finals(2, ("z", "y"), misses("xa")), [("z", "a"), ("y", "a"), ("x", "a")])
        self.assertEqual(all_finals(2, ("y", "z"), misses("xa")), [("y", "a"), ("z", "a"), ("x", "a")])

    def test_the_first_and_the_last_index(self):
        case = (3, (), misses("abcde"))
        self.assertEqual(count_finals(*case), 6)
        self.assertEqual(nth_final(*case, 0), ("a", "b", "e"))
        self.assertEqual(nth_final(*case, 5), ("c", "d", "e"))
        self.assertEqual(rank_final(*case, ("e", "b", "a")), 0)
        self.assertEqual(rank_final(*case, ("d", "e", "c")), 5)

    def test_ranks_of_pages_in_any_order(self):
        case = (3, (), misses("abcde"))
        for index, final in enumerate(all_finals(*case)):
            for pages in permutations(final):
                self.assertEqual(rank_final(*case, pages), index)


class AllHistories(unittest.TestCase):
    def test_all_small_cases(self):
        for capacity, start, log in oracle.small_cases(4):
            replays = oracle.replays(capacity, start, log)
            if replays:
                self.check((capacity, start, log), {frozenset(contents[-1]) for _, contents in replays})

    def check(self, case, shelves):
        finals = oracle.finals(shelves, *case[1:])
        self.assertEqual(count_finals(*case), len(finals), case)
        self.assertEqual(all_finals(*case), finals, case)
        self.assertEqual([rank_final(*case, pages[::-1]) for pages in finals], list(range(len(finals))), case)

    def test_all_sets_of_pages(self):
        for capacity, start, log in oracle.small_cases(3):
            replays = oracle.replays(capacity, start, log)
            if replays:
                shelves = {frozenset(contents[-1]) for _, contents in replays}
                pages = oracle.pages_by_last_occurrence(start, log)[::-1] + ["z"]
                for many in range(len(pages) + 1):
                    for chosen in combinations(pages, many):
                        self.check_pages((capacity, start, log), chosen, frozenset(chosen) in shelves)

    def check_pages(self, case, chosen, right):
        self.assertIs(can_be_final(*case, chosen), right, (case, chosen))
        reason = why_not_final(*case, chosen)
        self.assertEqual(reason, oracle.why_not_final(*case, chosen), (case, chosen))
        self.assertIs(reason is None, right, (case, chosen))

    def test_longer_logs(self):
        for capacity, start, log, _ in played_cases():
            case = (capacity, start, log)
            shelves = oracle.told_by_contents(*case).shelves[-1]
            self.check(case, shelves)
            pages = oracle.pages_by_last_occurrence(start, log)
            for chosen in combinations(pages, len(nth_final(*case, 0))):
                self.check_pages(case, chosen, frozenset(chosen) in shelves)


class LargeLogs(unittest.TestCase):
    def test_different_pages(self):
        log = turning_log(130)
        for capacity in (1, 2, 39, 40, 129):
            case = (capacity, (), log)
            # The last page is on the shelf; the others may be any.
            many = comb(129, capacity - 1)
            self.assertEqual(count_finals(*case), many)
            self.assertEqual(nth_final(*case, 0), tuple(NAMES[:capacity - 1]) + (NAMES[129],))
            self.assertEqual(nth_final(*case, many - 1), tuple(NAMES[130 - capacity:130]))
            self.assertEqual(rank_final(*case, tuple(NAMES[130 - capacity:130])), many - 1)
            with self.assertRaises(InvalidIndex):
                nth_final(*case, many)

    def test_pages_of_a_full_start(self):
        case = (40, tuple(NAMES[129:169]), turning_log(129, 129))
        self.assertEqual(count_finals(*case), comb(168, 39))
        self.assertEqual(nth_final(*case, 0), tuple(NAMES[129:168]) + (NAMES[128],))
        self.assertEqual(rank_final(*case, nth_final(*case, 10**38)), 10**38)

    def test_ranks_are_the_reverse_of_contents(self):
        random = Random(7)
        for seed, capacity in enumerate((1, 2, 20, 39, 40, 40, 40)):
            start = tuple(NAMES[5:5 + seed * capacity // 6])
            log, evicted = played_log(seed, capacity, start, NAMES[:capacity + 10 * seed + 2], 130, seed % 4)
            case = (capacity, start, log)
            many = count_finals(*case)
            found = []
            for index in sorted({0, many // 2, many - 1} | {random.randrange(many) for _ in range(5)}):
                pages = nth_final(*case, index)
                self.assertIs(can_be_final(*case, pages), True)
                self.assertEqual(rank_final(*case, pages), index)
                mixed = tuple(random.sample(pages, len(pages)))
                self.assertEqual(rank_final(*case, mixed), index)
                found.append([oracle.pages_by_last_occurrence(start, log).index(page) for page in pages])
            self.assertEqual(found, sorted(found))

    def test_a_capacity_that_has_many_digits(self):
        case = (10**44, ("x",), LOG)
        self.assertEqual(all_finals(*case), [("x", "a", "b", "c")])
        self.assertEqual(rank_final(*case, ("a", "x", "c", "b")), 0)
        self.assertEqual(why_not_final(*case, ("a",)), ("size", 4))


class WrongArguments(unittest.TestCase):
    def expect(self, error, function, *arguments):
        with self.assertRaises(error) as caught:
            function(*arguments)
        self.assertIs(type(caught.exception), error)

    def test_pages(self):
        for pages in WRONG_SHELVES + [Refusing(), (Refusing(),), ("a", Refusing())]:
            for log in [LOG] + IMPOSSIBLE:
                for function in (can_be_final, why_not_final, rank_final):
                    self.expect(InvalidPages, function, 2, (), log, pages)

    def test_logs_that_are_not_possible(self):
        for log in IMPOSSIBLE:
            for function in (can_be_final, why_not_final, rank_final):
                for pages in ((), ("a",), ("b", "c"), ("z", "y", "x")):
                    self.expect(NotPossible, function, 2, (), log, pages)
            self.expect(NotPossible, count_finals, 2, (), log)
            for index in (0, 1, 10**44):
                self.expect(NotPossible, nth_final, 2, (), log, index)

    def test_values_that_are_no_index(self):
        for index in NO_INTEGERS + [-1, -2, -(10**44), Refusing()]:
            for log in [LOG, []] + IMPOSSIBLE:
                self.expect(InvalidIndex, nth_final, 2, (), log, index)

    def test_an_index_that_is_too_large(self):
        self.assertEqual(count_finals(2, (), LOG), 2)
        for index in (2, 3, 10**44):
            self.expect(InvalidIndex, nth_final, 2, (), LOG, index)
        self.expect(InvalidIndex, nth_final, 2, (), [], 1)

    def test_contents_that_are_not_final(self):
        for pages in ((), ("c",), ("a", "b"), ("z", "c"), ("a", "b", "c")):
            self.expect(NotFinal, rank_final, 2, (), LOG, pages)
        self.expect(NotFinal, rank_final, 2, (), [], ("a",))
        self.expect(NotFinal, rank_final, 1, ("x",), LOG, ("x",))


if __name__ == "__main__":
    unittest.main()
