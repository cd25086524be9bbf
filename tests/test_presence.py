"""Tests of [19] and [20]: which pages are on the shelf at a moment."""

import unittest

from hitlog.errors import InvalidMoment, InvalidPage, NotPossible
from hitlog.presence import certain_pages, possible_pages, presence
from tests import oracle
from tests.logs import NAMES, played_cases, turning_log
from tests.values import NO_INTEGERS, WRONG_PAGES, Refusing

LOG = [("miss", "a"), ("miss", "b"), ("miss", "c")]


def misses(pages):
    return [("miss", page) for page in pages]


class Presence(unittest.TestCase):
    def test_empty_log(self):
        self.assertEqual(presence(1, (), [], "a", 0), "never")
        self.assertEqual(presence(1, ("a",), [], "a", 0), "always")
        self.assertEqual(presence(1, ("a",), [], "b", 0), "never")

    def test_before_and_after_the_first_request(self):
        self.assertEqual([presence(2, (), LOG, "a", t) for t in range(4)], ["never", "always", "always", "sometimes"])
        self.assertEqual([presence(2, (), LOG, "b", t) for t in range(4)], ["never", "never", "always", "sometimes"])
        self.assertEqual([presence(2, (), LOG, "c", t) for t in range(4)], ["never", "never", "never", "always"])

    def test_a_page_that_does_not_occur(self):
        for page in ("z", "aa", "ca", "hit"):
            for moment in range(4):
                self.assertEqual(presence(2, (), LOG, page, moment), "never")

    def test_a_page_of_the_start_that_is_never_requested(self):
        self.assertEqual([presence(2, ("x",), LOG, "x", t) for t in range(4)], ["always"] * 2 + ["sometimes"] * 2)
        self.assertEqual([presence(1, ("x",), LOG, "x", t) for t in range(4)], ["always"] + ["never"] * 3)
        self.assertEqual([presence(40, ("x",), LOG, "x", t) for t in range(4)], ["always"] * 4)

    def test_a_held_page(self):
        log = LOG + [("hit", "a")]
        self.assertEqual([presence(2, (), log, "a", t) for t in range(5)], ["never"] + ["always"] * 4)
        self.assertEqual([presence(2, (), log, "b", t) for t in range(5)], ["never"] * 2 + ["always"] + ["never"] * 2)

    def test_a_released_page(self):
        log = misses("abcda")
        told = ["never", "always", "always", "sometimes", "never", "always"]
        self.assertEqual([presence(2, (), log, "a", t) for t in range(6)], told)
        told = ["never", "never", "always", "sometimes", "sometimes", "sometimes"]
        self.assertEqual([presence(2, (), log, "b", t) for t in range(6)], told)

    def test_a_page_that_must_make_room_for_a_held_one(self):
        log = misses("abc") + [("hit", "b"), ("miss", "d")]
        self.assertEqual([presence(2, (), log, "a", t) for t in (2, 3, 5)], ["always", "never", "never"])
        self.assertEqual([presence(2, (), log, "b", t) for t in (2, 3, 4, 5)], ["always"] * 3 + ["sometimes"])

    def test_a_page_that_must_stay_for_a_later_eviction(self):
        self.assertEqual(presence(2, (), misses("abcab"), "b", 3), "always")
        self.assertEqual(presence(2, (), misses("abcab"), "a", 3), "never")
        self.assertEqual(presence(2, (), misses("abcab"), "c", 4), "always")

    def test_true_is_no_moment_but_one_is(self):
        self.assertEqual(presence(2, (), LOG, "a", 1), "always")
        for moment in (True, False):
            with self.assertRaises(InvalidMoment):
                presence(2, (), LOG, "a", moment)


class Pages(unittest.TestCase):
    def test_empty_log(self):
        for question in (certain_pages, possible_pages):
            self.assertEqual(question(1, (), [], 0), ())
            self.assertEqual(question(3, ("b", "c", "a"), [], 0), ("a", "b", "c"))

    def test_every_moment(self):
        self.assertEqual([certain_pages(2, (), LOG, t) for t in range(4)], [(), ("a",), ("a", "b"), ("c",)])
        self.assertEqual([possible_pages(2, (), LOG, t) for t in range(4)], [(), ("a",), ("a", "b"), ("a", "b", "c")])

    def test_never_requested_pages_of_the_start(self):
        self.assertEqual(certain_pages(3, ("y", "x"), LOG, 1), ("a", "x", "y"))
        self.assertEqual(certain_pages(3, ("y", "x"), LOG, 2), ("b",))
        self.assertEqual(possible_pages(3, ("y", "x"), LOG, 3), ("a", "b", "c", "x", "y"))
        self.assertEqual(certain_pages(1, ("x",), LOG, 3), ("c",))
        self.assertEqual(possible_pages(1, ("x",), LOG, 3), ("c",))

    def test_alphabetical_order(self):
        log = misses(["b", "ab", "aa", "a", "abc"])
        self.assertEqual(certain_pages(5, (), log, 5), ("a", "aa", "ab", "abc", "b"))
        self.assertEqual(possible_pages(4, (), log, 5), ("a", "aa", "ab", "abc", "b"))

    def test_what_later_events_tell(self):
        log = LOG + [("hit", "a")]
        self.assertEqual(certain_pages(2, (), log, 3), ("a", "c"))
        self.assertEqual(possible_pages(2, (), log, 3), ("a", "c"))
        log = LOG + [("miss", "a")]
        self.assertEqual(certain_pages(2, (), log, 3), ("b", "c"))
        self.assertEqual(possible_pages(2, (), log, 4), ("a", "b", "c"))

    def test_kinds_of_the_results(self):
        for question in (certain_pages, possible_pages):
            self.assertIs(type(question(2, (), LOG, 3)), tuple)
            self.assertIs(type(question(2, (), [], 0)), tuple)

    def test_pages_in_turn_on_a_large_shelf(self):
        log = turning_log(41)
        for moment in (0, 1, 40):
            self.assertEqual(certain_pages(40, (), log, moment), tuple(NAMES[:moment]))
            self.assertEqual(possible_pages(40, (), log, moment), tuple(NAMES[:moment]))
        for moment in (41, 42, 129):
            shelf = tuple(sorted(page for page in NAMES[:41] if page != NAMES[moment % 41]))
            self.assertEqual(certain_pages(40, (), log, moment), shelf)
            self.assertEqual(possible_pages(40, (), log, moment), shelf)
        self.assertEqual(certain_pages(40, (), log, 130), (NAMES[129 % 41],))
        self.assertEqual(possible_pages(40, (), log, 130), tuple(NAMES[:41]))

    def test_different_pages_on_a_large_shelf(self):
        log = turning_log(130)
        others = tuple("q" + one + two for one in "abcd" for two in "abcdefghij")
        self.assertEqual(certain_pages(40, others, log, 0), others)
        self.assertEqual(certain_pages(40, others, log, 130), (NAMES[129],))
        self.assertEqual(possible_pages(40, others, log, 130), tuple(sorted(others + tuple(NAMES[:130]))))


class AllHistories(unittest.TestCase):
    def test_all_small_cases(self):
        for capacity, start, log in oracle.small_cases(4):
            told = oracle.told_by_each_history(capacity, start, log)
            if told.shelves[0]:
                self.check(capacity, start, log, told, ("a", "b", "c", "x", "y"), range(len(log) + 1))

    def test_longer_logs(self):
        for capacity, start, log, _ in played_cases():
            told = oracle.told_by_contents(capacity, start, log)
            moments = range(len(log) + 1) if len(log) < 130 else [0, 1, 2, 60, 61, 62, 63, 64, 127, 128, 129, 130]
            self.check(capacity, start, log, told, NAMES[:capacity + 4], moments)

    def check(self, capacity, start, log, told, pages, moments):
        for moment in moments:
            case = (capacity, start, log, moment)
            self.assertEqual(certain_pages(*case), told.certain(moment), case)
            self.assertEqual(possible_pages(*case), told.possible(moment), case)
            for page in pages:
                found = presence(capacity, start, log, page, moment)
                self.assertEqual(found, told.presence(page, moment), (case, page))


class WrongArguments(unittest.TestCase):
    def expect(self, error, function, *arguments):
        with self.assertRaises(error) as caught:
            function(*arguments)
        self.assertIs(type(caught.exception), error)

    def test_pages(self):
        for page in WRONG_PAGES + [Refusing()]:
            self.expect(InvalidPage, presence, 2, (), LOG, page, 0)
            self.expect(InvalidPage, presence, 2, (), LOG, page, -1)
            self.expect(InvalidPage, presence, 2, (), [("hit", "a")], page, None)

    def test_moments(self):
        for moment in NO_INTEGERS + [-1, 4, 5, -4, 10**44, -(10**44), Refusing()]:
            for log in (LOG, LOG[:2] + [("hit", "z")]):
                self.expect(InvalidMoment, presence, 2, (), log, "a", moment)
                self.expect(InvalidMoment, certain_pages, 2, (), log, moment)
                self.expect(InvalidMoment, possible_pages, 2, (), log, moment)

    def test_the_only_moment_of_an_empty_log(self):
        for moment in (-1, 1):
            self.expect(InvalidMoment, presence, 1, (), [], "a", moment)
            self.expect(InvalidMoment, certain_pages, 1, (), [], moment)
            self.expect(InvalidMoment, possible_pages, 1, (), [], moment)

    def test_logs_that_are_not_possible(self):
        for log in ([("hit", "a")], misses("aa"), misses("abc") + [("hit", "a"), ("hit", "b")]):
            for moment in (0, len(log)):
                self.expect(NotPossible, presence, 2, (), log, "z", moment)
                self.expect(NotPossible, certain_pages, 2, (), log, moment)
                self.expect(NotPossible, possible_pages, 2, (), log, moment)


if __name__ == "__main__":
    unittest.main()
