"""Tests of [32]: logs and shelves as texts."""

import unittest
from itertools import product
from random import Random

from hitlog.errors import InvalidLog, InvalidShelf, InvalidText
from hitlog.texts import format_log, format_shelf, parse_log, parse_shelf
from tests import oracle
from tests.logs import NAMES, large_cases
from tests.values import NO_PAGES, RIGHT_PAGES, WRONG_LOGS, WRONG_PAGES, WRONG_SHELVES, Refusing

LOG = [("miss", "a"), ("miss", "bcd"), ("hit", "a")]

# Signs that are white space of some kind, but not the blank.
OTHER_SPACES = ["\t", "\n", "\r", "\x0b", "\x0c", "\x1c", "\x1d", "\x1e", "\x1f", "\x85", "\xa0", "\u2000", "\u2028"]
OTHER_SPACES += ["\u3000", "\u200b", "\x00", "", ",", ";", "_", "  ", "   ", " \t", "\t ", " \n"]

# Values that are no texts at all.
NO_TEXTS = [value for value in NO_PAGES if not isinstance(value, str)] + [
    ("-a",),
    ["-a"],
    [],
    (),
    [("miss", "a")],
    ("a", "b"),
    ["-", "a"],
    b"-a",
    b"-a -b",
    {"-a": "-b"},
    Refusing(),
]


class Texts(unittest.TestCase):
    def test_empty_texts(self):
        self.assertEqual(format_log([]), "")
        self.assertEqual(format_shelf(()), "")
        self.assertEqual(parse_log(""), [])
        self.assertEqual(parse_shelf(""), ())

    def test_one_word(self):
        for page in RIGHT_PAGES:
            self.assertEqual(format_log([("hit", page)]), "+" + page)
            self.assertEqual(format_log([("miss", page)]), "-" + page)
            self.assertEqual(format_shelf((page,)), page)
            self.assertEqual(parse_log("+" + page), [("hit", page)])
            self.assertEqual(parse_log("-" + page), [("miss", page)])
            self.assertEqual(parse_shelf(page), (page,))

    def test_several_words(self):
        self.assertEqual(format_log(LOG), "-a -bcd +a")
        self.assertEqual(parse_log("-a -bcd +a"), LOG)
        self.assertEqual(format_shelf(("c", "a", "bcd")), "c a bcd")
        self.assertEqual(parse_shelf("c a bcd"), ("c", "a", "bcd"))

    def test_logs_that_are_not_possible_have_texts(self):
        self.assertEqual(format_log([("hit", "z"), ("miss", "a"), ("miss", "a")]), "+z -a -a")
        self.assertEqual(parse_log("+z -a -a"), [("hit", "z"), ("miss", "a"), ("miss", "a")])

    def test_kinds_of_the_values(self):
        self.assertIs(type(format_log(LOG)), str)
        self.assertIs(type(parse_log("-a +a")), list)
        self.assertEqual([type(event) for event in parse_log("-a +a")], [tuple, tuple])
        self.assertIs(type(parse_shelf("a b")), tuple)
        self.assertIs(type(parse_shelf("")), tuple)

    def test_parsed_logs_are_new(self):
        for text in ("", "-a", "-a +a"):
            first, second = parse_log(text), parse_log(text)
            self.assertIsNot(first, second)
            first.append("x")
            self.assertEqual(parse_log(text), second)

    def test_by_name(self):
        self.assertEqual(format_log(log=LOG), "-a -bcd +a")
        self.assertEqual(format_shelf(shelf=("b", "a")), "b a")
        self.assertEqual(parse_log(text="-a"), [("miss", "a")])
        self.assertEqual(parse_shelf(text="b a"), ("b", "a"))

    def test_there_and_back(self):
        for log in oracle.small_logs(4):
            self.assertEqual(parse_log(format_log(log)), log)
        for many in range(5):
            for shelf in product("abcd", repeat=many):
                if len(set(shelf)) == many:
                    self.assertEqual(parse_shelf(format_shelf(shelf)), shelf)
        for _, start, log, _ in large_cases():
            self.assertEqual(parse_log(format_log(log)), log)
            self.assertEqual(parse_shelf(format_shelf(start)), start)


class LongTexts(unittest.TestCase):
    def test_logs(self):
        # 750 events of two letters make 2999 signs.
        log = [("hit" if index % 3 else "miss", NAMES[index % 169]) for index in range(750)]
        text = format_log(log)
        self.assertEqual(len(text), 2999)
        self.assertEqual(parse_log(text), log)
        for wrong in (text + " ", text + "+", text + " +", text + " -A", " " + text, text[1:], text[:-3] + "  a"):
            with self.assertRaises(InvalidText):
                parse_log(wrong)

    def test_the_longest_words(self):
        log = [("hit", "wxyz"), ("miss", "zzzz")] * 250
        text = format_log(log)
        self.assertEqual(len(text), 2999)
        self.assertEqual(parse_log(text), log)
        with self.assertRaises(InvalidText):
            parse_log(text + "z")

    def test_shelves(self):
        # 676 pages of three letters make 2703 signs, and 98 pages of two letters 294 more.
        letters = "abcdefghijklmnopqrstuvwxyz"
        shelf = tuple("x" + one + two for one in letters for two in letters) + tuple(NAMES[:98])
        text = format_shelf(shelf)
        self.assertEqual(len(text), 2997)
        self.assertEqual(parse_shelf(text), shelf)
        for wrong in (text + " ", text + " xaa", text + " " + NAMES[97], "xaa " + text, " " + text, text + "1"):
            with self.assertRaises(InvalidText):
                parse_shelf(wrong)

    def test_one_sign_too_many_anywhere(self):
        text = "-ab +c -wxyz"
        for index in range(len(text) + 1):
            for sign in "+-.A1 \n":
                with self.assertRaises(InvalidText):
                    parse_log(text[:index] + sign + text[index:])
        text = "ab c wxyz"
        for index in range(len(text) + 1):
            for sign in "+-.A1\n":
                with self.assertRaises(InvalidText):
                    parse_shelf(text[:index] + sign + text[index:])


class WrongTexts(unittest.TestCase):
    def refuse(self, parse, value):
        with self.assertRaises(InvalidText) as caught:
            parse(value)
        self.assertIs(type(caught.exception), InvalidText)

    def test_other_kinds_of_values(self):
        for value in NO_TEXTS:
            self.refuse(parse_log, value)
            self.refuse(parse_shelf, value)

    def test_wrong_logs(self):
        texts = ["a", "hit a", "-", "+", "--", "++", "+-a", "-+a", "- a", "+ a", "-a-b", "-a+b", "a-", "-abcde", "-a b"]
        texts += ["a -b", "-a -", "-a +", "- -", "*a", "=a", "-A", "-a1", "-a -b +abcde", "-1", "~a", ".a", "hit"]
        for text in texts + ["(-a)", "'-a'", "[]", "-a, -b", "-a,-b", "\u2212a", "\u2010a", "\uff0ba"]:
            with self.subTest(text=text):
                self.refuse(parse_log, text)

    def test_wrong_shelves(self):
        texts = ["a a", "a b a", "ab ab", "abcde", "a abcde", "A", "a1", "1", "-a", "+a", "-a -b", "a,b", "a, b", "()"]
        for text in texts + ["a-b", "a b b", "~", "'a'", "\u00e4", "\uff41", "\ud800"]:
            with self.subTest(text=text):
                self.refuse(parse_shelf, text)

    def test_blanks(self):
        for text in (" ", "  ", " -a", "-a ", "-a  -b", "-a -b ", " -a -b", "-a   -b", "  -a"):
            self.refuse(parse_log, text)
        for text in (" ", "  ", " a", "a ", "a  b", "a b ", " a b", "a   b", "  a", "a" + " " * 2000 + "b"):
            self.refuse(parse_shelf, text)

    def test_other_spaces(self):
        for space in OTHER_SPACES:
            self.refuse(parse_log, "-abc" + space + "-def")
            self.refuse(parse_shelf, "abc" + space + "def")
            if space:
                self.refuse(parse_log, space)
                self.refuse(parse_shelf, space)
                for text in ("a", "a b"):
                    self.refuse(parse_shelf, text + space)
                    self.refuse(parse_shelf, space + text)
                for text in ("-a", "-a +b"):
                    self.refuse(parse_log, text + space)
                    self.refuse(parse_log, space + text)

    def test_wrong_pages(self):
        for page in WRONG_PAGES:
            if isinstance(page, str):
                self.refuse(parse_log, "-b +" + page)
                self.refuse(parse_log, "-" + page + " +b")
                if page not in ("", "a b"):
                    self.refuse(parse_shelf, page)
                if page != "a b":
                    self.refuse(parse_shelf, "b " + page)
                    self.refuse(parse_shelf, page + " b")


class WrongValues(unittest.TestCase):
    def test_logs(self):
        for log in WRONG_LOGS + [Refusing(), [Refusing()]]:
            with self.subTest(log=repr(log)[:80]), self.assertRaises(InvalidLog) as caught:
                format_log(log)
            self.assertIs(type(caught.exception), InvalidLog)

    def test_shelves(self):
        for shelf in WRONG_SHELVES + [Refusing(), (Refusing(),)]:
            with self.subTest(shelf=repr(shelf)[:80]), self.assertRaises(InvalidShelf) as caught:
                format_shelf(shelf)
            self.assertIs(type(caught.exception), InvalidShelf)

    def test_a_shelf_without_a_capacity(self):
        self.assertEqual(len(format_shelf(tuple(NAMES)).split(" ")), 169)


if __name__ == "__main__":
    unittest.main()
