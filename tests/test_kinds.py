"""Tests of [4] and [10]: what a shelf and a log are, asked for any value."""

import unittest

from hitlog.logs import is_log, is_shelf
from tests.values import (
    ODD_VALUES,
    RIGHT_PAGES,
    WRONG_EVENTS,
    WRONG_LOGS,
    WRONG_PAGES,
    WRONG_SHELVES,
    Refusing,
)

ALPHABET = "abcdefghijklmnopqrstuvwxyz"


class IsShelf(unittest.TestCase):
    def test_right_shelves(self):
        shelves = [(), ("a",), ("b", "a"), ("a", "aa", "aaa", "aaaa"), tuple(ALPHABET), ("hit", "miss")]
        shelves += [(page,) for page in RIGHT_PAGES] + [tuple(RIGHT_PAGES)]
        for shelf in shelves:
            with self.subTest(shelf=shelf):
                self.assertIs(is_shelf(shelf), True)

    def test_every_letter_at_every_place(self):
        for letter in ALPHABET:
            for page in (letter, letter + "b", "b" + letter, "xy" + letter + "z", "xyz" + letter):
                self.assertIs(is_shelf((page,)), True, page)

    def test_no_other_sign_of_the_first_ones(self):
        for number in range(0x250):
            sign = chr(number)
            if sign not in list(ALPHABET):
                for page in (sign, sign + "b", "b" + sign, "ab" + sign + "d", "abc" + sign):
                    self.assertIs(is_shelf((page,)), False, repr(page))

    def test_many_pages(self):
        pages = [one + two for one in ALPHABET for two in ALPHABET][:130]
        self.assertIs(is_shelf(tuple(pages)), True)
        for index in range(1, 130):
            self.assertIs(is_shelf(tuple(pages[:index] + pages[:1] + pages[index + 1:])), False)

    def test_wrong_shelves(self):
        for value in WRONG_SHELVES:
            with self.subTest(value=value):
                self.assertIs(is_shelf(value), False)

    def test_wrong_page_at_each_place(self):
        for page in WRONG_PAGES:
            for index in range(3):
                shelf = ["a", "b", "c"]
                shelf[index] = page
                with self.subTest(shelf=shelf):
                    self.assertIs(is_shelf(tuple(shelf)), False)

    def test_a_log_is_no_shelf(self):
        self.assertIs(is_shelf([]), False)
        self.assertIs(is_shelf((("miss", "a"),)), False)

    def test_deep_values(self):
        value = "a"
        for _ in range(40):
            value = (value,)
            self.assertIs(is_shelf((value,)), False)
            self.assertIs(is_shelf(([value],)), False)


class IsLog(unittest.TestCase):
    def test_right_logs(self):
        logs = [
            [],
            [("hit", "a")],
            [("miss", "a")],
            [("miss", "a"), ("miss", "b"), ("hit", "a")],
            [("hit", "hit"), ("miss", "miss"), ("hit", "miss")],
            [("miss", "wxyz"), ("hit", "wxyz")],
        ]
        logs += [[("hit", page)] for page in RIGHT_PAGES] + [[("miss", page)] for page in RIGHT_PAGES]
        for log in logs:
            with self.subTest(log=log):
                self.assertIs(is_log(log), True)

    def test_impossible_logs_are_logs(self):
        for log in ([("hit", "a")], [("miss", "a"), ("miss", "a")], [("hit", "a"), ("miss", "a")] * 65):
            self.assertIs(is_log(log), True)

    def test_wrong_logs(self):
        for value in WRONG_LOGS:
            with self.subTest(value=value):
                self.assertIs(is_log(value), False)

    def test_wrong_event_at_each_place(self):
        for event in WRONG_EVENTS:
            for index in range(3):
                log = [("miss", "a"), ("miss", "b"), ("hit", "a")]
                log[index] = event
                with self.subTest(log=log):
                    self.assertIs(is_log(log), False)

    def test_wrong_event_anywhere_in_a_long_log(self):
        right = [("miss", "a"), ("hit", "a")] * 65
        self.assertIs(is_log(right), True)
        for index in range(130):
            for event in (("out", "a"), ("hit", "A"), ["hit", "a"], ("hit",), ("hit", "a", "a"), None):
                self.assertIs(is_log(right[:index] + [event] + right[index + 1:]), False)

    def test_a_shelf_is_no_log(self):
        self.assertIs(is_log(()), False)
        self.assertIs(is_log(("a",)), False)

    def test_deep_values(self):
        value = ("miss", "a")
        for depth in range(40):
            value = [value] if depth != 1 else (value,)
            self.assertIs(is_log(value), depth == 0)
            self.assertIs(is_log([("miss", value)]), False)
            self.assertIs(is_log([(value, "a")]), False)

    def test_a_list_that_contains_itself(self):
        value = []
        value.append(value)
        self.assertIs(is_log(value), False)
        self.assertIs(is_shelf(value), False)


class NothingIsRaised(unittest.TestCase):
    def test_values_that_refuse_everything(self):
        value = Refusing()
        for wrong in (value, (value,), ("a", value), (value, value), (value, "a")):
            self.assertIs(is_shelf(wrong), False)
        for wrong in (value, [value], [("hit", value)], [(value, "a")], [(value, value)], [("miss", "a"), value]):
            self.assertIs(is_log(wrong), False)

    def test_nothing_odd_is_a_shelf_or_a_log(self):
        for value in ODD_VALUES:
            with self.subTest(value=value):
                self.assertIs(is_shelf(value), False)
                self.assertIs(is_log(value), False)


if __name__ == "__main__":
    unittest.main()
