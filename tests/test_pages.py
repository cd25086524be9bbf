"""Tests of [4] wherever a page is asked: every sign from the blank to ~ in the place of a page's letter."""

import unittest

from hitlog.capacities import next_marks
from hitlog.errors import (
    InvalidHistory,
    InvalidLog,
    InvalidObservations,
    InvalidPage,
    InvalidPages,
    InvalidRequests,
    InvalidShelf,
    InvalidText,
)
from hitlog.counting import rank_history
from hitlog.finals import can_be_final, rank_final
from hitlog.gaps import gaps
from hitlog.live import LiveShelf
from hitlog.logs import is_log, is_shelf, replay, sizes
from hitlog.observations import first_conflict, observed_history
from hitlog.presence import presence
from hitlog.rules import first_difference, rule_evictions, rule_log
from hitlog.texts import format_log, format_shelf, parse_log, parse_shelf

LETTERS = "abcdefghijklmnopqrstuvwxyz"
SIGNS = [chr(number) for number in range(ord(" "), ord("~") + 1)]


def words_with(sign, words=("", "b", "bc", "bcd")):
    """Return the sign alone and at each place among other letters."""
    return [word[:at] + sign + word[at:] for word in words for at in range(len(word) + 1)]


RIGHT = [page for sign in LETTERS for page in words_with(sign)]
WRONG = [page for sign in SIGNS if sign not in LETTERS for page in words_with(sign)]
TOO_LONG = [page for sign in SIGNS for page in words_with(sign, ("bcde",))]


class RightPages(unittest.TestCase):
    def test_everywhere(self):
        for page in RIGHT:
            with self.subTest(page=page):
                log = [("miss", page), ("hit", page)]
                self.assertIs(is_shelf((page,)), True)
                self.assertIs(is_log(log), True)
                self.assertEqual(sizes(1, (page,), log), [1, 1, 1])
                self.assertEqual(rule_log("FIFO", 1, (), [page, page]), log)
                self.assertEqual(rule_evictions("OPT", 1, (page,), ["qq"]), [page])
                self.assertIs(first_difference("LRU", 1, (), log), None)
                self.assertEqual(next_marks(1, (), log, page), ["hit"])
                self.assertEqual(presence(1, (), log, page, 1), "always")
                self.assertIs(can_be_final(1, (), log, (page,)), True)
                self.assertIs(first_conflict(1, (), log, [(1, page, True)]), None)
                self.assertEqual(parse_log(format_log(log)), log)
                self.assertEqual(parse_shelf(format_shelf((page, "qq"))), (page, "qq"))
                self.check_live(page)

    def check_live(self, page):
        shelf = LiveShelf(1, ("qq",))
        self.assertEqual(shelf.marks(page), ["miss"])
        shelf.request(page, "miss")
        shelf.observe(page, True)
        self.assertEqual(shelf.certain(), (page,))


class WrongPages(unittest.TestCase):
    def expect(self, error, function, *arguments):
        with self.assertRaises(error, msg=(function, arguments)) as caught:
            function(*arguments)
        self.assertIs(type(caught.exception), error)

    def test_everywhere(self):
        for page in WRONG + TOO_LONG:
            self.assertIs(is_shelf((page,)), False)
            self.assertIs(is_shelf(("a", page)), False)
            self.assertIs(is_log([("hit", page)]), False)
            self.assertIs(is_log([("miss", page)]), False)
            self.check_functions(page)
            self.check_live(page)

    def check_functions(self, page):
        self.expect(InvalidShelf, sizes, 2, (page,), [])
        self.expect(InvalidShelf, gaps, (page,), [])
        self.expect(InvalidLog, sizes, 2, (), [("hit", page)])
        self.expect(InvalidHistory, replay, 1, ("a",), [("miss", "b")], [page])
        self.expect(InvalidHistory, rank_history, 1, ("a",), [("miss", "b")], [page])
        self.expect(InvalidPage, next_marks, 2, (), [], page)
        self.expect(InvalidPage, presence, 2, (), [], page, 0)
        self.expect(InvalidPages, can_be_final, 2, (), [], (page,))
        self.expect(InvalidPages, rank_final, 2, (), [], (page,))
        self.expect(InvalidObservations, first_conflict, 2, (), [], [(0, page, False)])
        self.expect(InvalidObservations, observed_history, 2, (), [], [(0, page, False)])
        self.expect(InvalidRequests, rule_log, "LRU", 2, (), [page])
        self.expect(InvalidRequests, rule_evictions, "OPT", 2, (), ["a", page])
        self.expect(InvalidShelf, rule_log, "LRU", 2, (page,), [])
        self.expect(InvalidLog, first_difference, "FIFO", 2, (), [("miss", page)])

    def check_live(self, page):
        self.expect(InvalidShelf, LiveShelf, 2, (page,))
        shelf = LiveShelf(2)
        self.expect(InvalidPage, shelf.request, page, "miss")
        self.expect(InvalidPage, shelf.observe, page, False)
        self.expect(InvalidPage, shelf.marks, page)
        self.assertEqual(len(shelf), 0)

    def test_texts(self):
        for page in WRONG + TOO_LONG:
            self.expect(InvalidLog, format_log, [("miss", page)])
            self.expect(InvalidShelf, format_shelf, (page,))
            self.expect(InvalidText, parse_log, "-" + page)
            self.expect(InvalidText, parse_log, "-a +" + page)
            # With a blank inside, it is the text of several pages.
            if " " not in page.strip(" ") or page.strip(" ") != page:
                self.expect(InvalidText, parse_shelf, page)
                self.expect(InvalidText, parse_shelf, "a " + page)

    def test_a_blank_divides_a_text(self):
        for page in WRONG + TOO_LONG:
            if " " in page.strip(" ") and page.strip(" ") == page:
                self.assertEqual(" ".join(parse_shelf(page)), page)


if __name__ == "__main__":
    unittest.main()
