"""Tests of [9], [14], [15] and [16]: possible logs, reasons why a log is not possible, and the history of the rule."""

import unittest

from hitlog.logs import replay
from hitlog.possible import first_impossible, history, is_possible, is_reason, why_not
from tests import oracle
from tests.logs import played_cases
from tests.values import NO_INTEGERS, ODD_VALUES, WRONG_MARKS, Refusing

HELD_LOG = [("miss", "a"), ("hit", "x"), ("hit", "y")]
RELEASED_LOG = [("miss", "a"), ("miss", "b"), ("miss", "a")]


def misses(pages):
    return [("miss", page) for page in pages]


class IsPossible(unittest.TestCase):
    def test_empty_log(self):
        self.assertIs(is_possible(1, (), []), True)
        self.assertIs(is_possible(1, ("a",), []), True)
        self.assertIs(is_possible(40, ("b", "a"), []), True)

    def test_the_first_request_of_an_unknown_page(self):
        self.assertIs(is_possible(2, (), [("hit", "a")]), False)
        self.assertIs(is_possible(2, ("a",), [("hit", "b")]), False)
        self.assertIs(is_possible(2, ("a",), [("hit", "a"), ("miss", "b")]), True)

    def test_too_many_held_pages(self):
        self.assertIs(is_possible(2, ("x", "y"), HELD_LOG), False)
        self.assertIs(is_possible(2, ("x", "y"), HELD_LOG[:2]), True)
        self.assertIs(is_possible(3, ("x", "y"), HELD_LOG), True)
        self.assertIs(is_possible(1, ("x",), [("miss", "a"), ("hit", "x")]), False)

    def test_too_few_misses_to_release_a_page(self):
        self.assertIs(is_possible(2, (), RELEASED_LOG), False)
        self.assertIs(is_possible(1, (), RELEASED_LOG), True)
        self.assertIs(is_possible(1, (), misses("aa")), False)
        self.assertIs(is_possible(3, ("a",), misses("a")), False)

    def test_the_miss_of_a_page_does_not_evict_it(self):
        self.assertIs(is_possible(2, ("a", "b"), misses("a")), False)
        self.assertIs(is_possible(2, ("a", "b"), misses("ca")), True)
        self.assertIs(is_possible(2, ("a", "b"), misses("cab")), True)
        self.assertIs(is_possible(2, ("a", "b"), misses("cabc")), True)
        self.assertIs(is_possible(2, ("a", "b"), misses("cba") + [("hit", "b")]), True)
        self.assertIs(is_possible(3, ("a", "b", "d"), misses("cbad") + [("hit", "b")]), True)
        self.assertIs(is_possible(3, ("a", "b", "d"), misses("ca") + [("hit", "b"), ("miss", "b")]), False)

    def test_all_small_cases(self):
        for capacity, start, log in oracle.small_cases(4):
            found = is_possible(capacity, start, log)
            self.assertIs(found, bool(oracle.replays(capacity, start, log)), (capacity, start, log))

    def test_longer_logs_of_two_pages(self):
        for capacity, start, log in oracle.small_cases(5, ("a", "b")):
            found = is_possible(capacity, start, log)
            self.assertIs(found, bool(oracle.replays(capacity, start, log)), (capacity, start, log))


class WhyNot(unittest.TestCase):
    def test_nothing_for_possible_logs(self):
        self.assertIs(why_not(1, (), []), None)
        self.assertIs(why_not(2, ("a",), [("hit", "a"), ("miss", "b"), ("miss", "c")]), None)

    def test_first_comes_before_the_others(self):
        self.assertEqual(why_not(2, (), [("hit", "a")]), ("first", 0))
        self.assertEqual(why_not(2, ("x", "y"), HELD_LOG + [("hit", "b"), ("hit", "c")]), ("first", 3))
        self.assertEqual(why_not(2, (), RELEASED_LOG + [("hit", "d")]), ("first", 3))

    def test_held_comes_before_released(self):
        log = misses("aa") + HELD_LOG[1:] + misses("bc") + [("hit", "x"), ("hit", "y")]
        self.assertEqual(why_not(2, ("x", "y"), log), ("held", 0))
        self.assertEqual(why_not(4, ("x", "y", "a"), [("miss", "a")]), ("released", -1, 0))
        log = misses("aabcdee") + [("hit", "b"), ("hit", "c")]
        self.assertEqual(why_not(2, (), log), ("held", 4))

    def test_the_smallest_held_miss(self):
        log = misses("uv") + [("hit", "u"), ("hit", "v")] + misses("wa") + [("hit", "u"), ("hit", "v")] + HELD_LOG
        self.assertEqual(why_not(2, (), log[:-3]), ("held", 4))

    def test_the_smallest_b_and_its_greatest_a(self):
        self.assertEqual(why_not(2, (), RELEASED_LOG), ("released", 0, 2))
        self.assertEqual(why_not(2, ("a", "b"), misses("cdbba") + misses("aa")), ("released", 2, 3))
        self.assertEqual(why_not(3, ("a", "b", "c"), misses("dabc")), None)
        self.assertEqual(why_not(4, ("a", "b", "c"), misses("dabc")), ("released", -1, 1))
        log = misses("ca") + [("hit", "c"), ("hit", "a")] + misses("ac")
        self.assertEqual(why_not(2, ("a", "b"), log), ("released", 3, 4))
        log = misses("ca") + [("hit", "c"), ("hit", "a")] + misses("ca")
        self.assertEqual(why_not(2, ("a", "b"), log), ("released", 2, 4))

    def test_the_first_eviction_comes_too_late(self):
        self.assertEqual(why_not(40, ("a",), misses("bcdea")), ("released", -1, 4))
        self.assertEqual(why_not(5, ("a",), misses("bcdea")), ("released", -1, 4))
        self.assertEqual(why_not(4, ("a",), misses("bcdea")), None)

    def test_kinds_of_the_entries(self):
        for reason in (why_not(2, (), [("hit", "a")]), why_not(2, ("x", "y"), HELD_LOG), why_not(2, (), RELEASED_LOG)):
            self.assertIs(type(reason), tuple)
            self.assertEqual([type(entry) for entry in reason], [str] + [int] * (len(reason) - 1))

    def test_all_small_cases(self):
        for capacity, start, log in oracle.small_cases(4):
            reasons = oracle.reasons(capacity, start, log)
            expected = reasons[0] if reasons else None
            self.assertEqual(why_not(capacity, start, log), expected, (capacity, start, log))

    def test_longer_logs_after_a_wrong_event(self):
        for capacity, start, log, _ in played_cases():
            for middle in (len(log) // 2, len(log) - 1):
                mark, page = log[middle]
                wrong = log[:middle] + [({"hit": "miss", "miss": "hit"}[mark], page)] + log[middle + 1:]
                told = (capacity, start, wrong[:40])
                self.assertEqual(why_not(*told), (oracle.reasons(*told) + [None])[0], told)


class IsReason(unittest.TestCase):
    def test_any_unknown_hit(self):
        log = [("hit", "a"), ("miss", "a"), ("hit", "a"), ("hit", "b"), ("hit", "b"), ("hit", "x")]
        right = [index for index in range(-3, 9) if is_reason(3, ("x",), log, ("first", index))]
        self.assertEqual(right, [0, 3])

    def test_any_crowded_miss(self):
        log = misses("abc") + [("hit", "x"), ("hit", "y")] + misses("d") + [("hit", "y"), ("hit", "x")]
        right = [e for e in range(-3, 12) if is_reason(2, ("x", "y"), log, ("held", e))]
        self.assertEqual(right, [0, 1, 2, 5])
        right = [e for e in range(-3, 12) if is_reason(3, ("x", "y"), log, ("held", e))]
        self.assertEqual(right, [])

    def test_any_stretch_that_is_too_short(self):
        pairs = [(a, b) for a in range(-3, 5) for b in range(-3, 9)]
        right = [(a, b) for a, b in pairs if is_reason(2, (), RELEASED_LOG, ("released", a, b))]
        self.assertEqual(right, [(-1, 2), (0, 2)])
        log = misses("ca") + [("hit", "c"), ("hit", "a")] + misses("cad")
        right = [(a, b) for a, b in pairs if is_reason(2, ("a", "b"), log, ("released", a, b))]
        self.assertEqual(right, [(1, 4), (1, 5), (2, 4), (2, 5)])

    def test_the_end_of_a_stretch_may_lie_behind_the_log(self):
        for b in (2, 3, 4, 100, 10**44):
            self.assertIs(is_reason(4, ("a",), misses("bca"), ("released", -1, b)), True)
            self.assertIs(is_reason(4, ("a",), misses("bca"), ("released", 0, b)), False)
        log = misses("bca") + misses("defg")
        self.assertEqual([b for b in range(9) if is_reason(4, ("a",), log, ("released", -1, b))], [2, 3])
        self.assertIs(is_reason(4, ("a",), log, ("released", -1, 10**44)), False)

    def test_integers_outside_of_the_ranges(self):
        for a in (-2, -3, -(10**44)):
            self.assertIs(is_reason(3, ("a",), misses("bca"), ("released", a, 2)), False)
            self.assertIs(is_reason(3, ("a",), misses("bca"), ("first", a)), False)
            self.assertIs(is_reason(3, ("a",), misses("bca"), ("held", a)), False)
        for a in (2, 3, 10**44):
            self.assertIs(is_reason(3, ("a",), misses("bca"), ("released", a, 2)), False)

    def test_nothing_for_possible_logs(self):
        values = [("first", 0), ("held", 1), ("released", -1, 0), ("released", -1, 1), ("released", -1, 2), None]
        for value in values:
            self.assertIs(is_reason(2, (), [("miss", "a"), ("hit", "a")], value), False)
            self.assertIs(is_reason(1, (), [], value), False)

    def test_other_values(self):
        log = [("miss", "a"), ("hit", "b")] + misses("cdd")
        start = ("x", "y")
        rights = [("first", 1), ("released", 3, 4)]
        for value in rights:
            self.assertIs(is_reason(2, start, log, value), True)
        wrong = [(), ("first",), ("first", 1, 1), ("held",), ("released",), ("released", 4), ("released", -1, 3, 4)]
        wrong += [["first", 1], ["released", 3, 4], ("released", (3, 4)), ("first", (1,)), (("first", 1),)]
        wrong += [(1, "first"), "first", "first 1", {"first": 1}, {"first", 1}, ("released", 3, 4, None), (1, 3, 4)]
        wrong += [("held", 3, 4), ("first", 3, 4), ("released", 1), ("held", 1), ("First", 1), ("open", 1)]
        for value in wrong + ODD_VALUES:
            with self.subTest(value=value):
                self.assertIs(is_reason(2, start, log, value), False)

    def test_other_entries(self):
        log = [("hit", "b"), ("hit", "c")] + misses("dd")
        self.assertIs(is_reason(1, ("x",), log, ("first", 0)), True)
        self.assertIs(is_reason(1, ("x",), log, ("first", 1)), True)
        self.assertIs(is_reason(1, ("x",), log, ("released", 2, 3)), True)
        self.assertIs(is_reason(1, ("x",), misses("a") + [("hit", "x")], ("held", 0)), True)
        for value in NO_INTEGERS + [Refusing()]:
            self.assertIs(is_reason(1, ("x",), log, ("first", value)), False)
            self.assertIs(is_reason(1, ("x",), misses("a") + [("hit", "x")], ("held", value)), False)
            self.assertIs(is_reason(1, ("x",), log, ("released", value, 3)), False)
            self.assertIs(is_reason(1, ("x",), log, ("released", 2, value)), False)
        for name in WRONG_MARKS + [Refusing()]:
            self.assertIs(is_reason(1, ("x",), log, (name, 0)), False)
            self.assertIs(is_reason(1, ("x",), log, (name, 2, 3)), False)
        self.assertIs(is_reason(1, ("x",), log, Refusing()), False)

    def test_true_and_false_are_no_integers(self):
        self.assertIs(is_reason(1, (), [("hit", "b")], ("first", False)), False)
        self.assertIs(is_reason(1, (), misses("aa"), ("released", False, 1)), False)
        self.assertIs(is_reason(1, (), misses("aa"), ("released", 0, True)), False)
        self.assertIs(is_reason(1, (), misses("aa"), ("released", 0, 1)), True)

    def test_all_small_cases(self):
        for capacity, start, log in oracle.small_cases(3):
            inside = range(-2, len(log) + 1)
            values = [(name, e) for name in ("first", "held") for e in inside]
            values += [("released", a, b) for a in inside for b in inside]
            right = [value for value in values if is_reason(capacity, start, log, value)]
            self.assertEqual(sorted(right), sorted(oracle.reasons(capacity, start, log)), (capacity, start, log))

    def test_the_reason_of_why_not(self):
        for capacity, start, log in oracle.small_cases(4):
            reason = why_not(capacity, start, log)
            self.assertIs(is_reason(capacity, start, log, reason), reason is not None, (capacity, start, log))


class History(unittest.TestCase):
    def test_no_eviction(self):
        self.assertEqual(history(1, (), []), [])
        self.assertEqual(history(2, ("a",), [("hit", "a"), ("miss", "b")]), [])

    def test_none_for_logs_that_are_not_possible(self):
        self.assertIs(history(2, (), [("hit", "a")]), None)
        self.assertIs(history(2, ("x", "y"), HELD_LOG), None)
        self.assertIs(history(2, (), RELEASED_LOG), None)

    def test_the_smallest_end_goes_first(self):
        self.assertEqual(history(3, ("a", "b", "c"), misses("dcb")), ["c", "b", "a"])
        self.assertEqual(history(3, ("a", "b", "c"), misses("dbc")), ["b", "c", "a"])

    def test_a_released_gap_goes_before_an_open_one(self):
        self.assertEqual(history(2, ("a", "b"), misses("cdb")), ["b", "a", "c"])

    def test_open_gaps_go_in_the_order_of_the_start(self):
        self.assertEqual(history(3, ("b", "c", "a"), misses("xyz")), ["b", "c", "a"])
        self.assertEqual(history(3, ("b", "c", "a"), misses("xyzu")), ["b", "c", "a", "x"])

    def test_open_gaps_go_by_the_last_request_of_their_page(self):
        log = [("hit", "b"), ("miss", "x"), ("miss", "y"), ("miss", "z")]
        self.assertEqual(history(3, ("b", "c", "a"), log), ["c", "a", "b"])

    def test_held_gaps_stay(self):
        log = misses("xyz") + [("hit", "b")]
        self.assertEqual(history(3, ("b", "c", "a"), log), ["c", "a", "x"])

    def test_capacity_one(self):
        self.assertEqual(history(1, ("x",), misses("aba")), ["x", "a", "b"])

    def test_all_small_cases(self):
        for capacity, start, log in oracle.small_cases(4):
            self.check(capacity, start, log)

    def test_longer_logs(self):
        for capacity, start, log, _ in played_cases():
            self.check(capacity, start, log)
            self.assertEqual(len(replay(capacity, start, log, history(capacity, start, log))), len(log) + 1)

    def check(self, capacity, start, log):
        found = history(capacity, start, log)
        if is_possible(capacity, start, log):
            self.assertEqual(found, oracle.history(capacity, start, log), (capacity, start, log))
        else:
            self.assertIs(found, None, (capacity, start, log))


class FirstImpossible(unittest.TestCase):
    def test_none_for_possible_logs(self):
        self.assertIs(first_impossible(1, (), []), None)
        self.assertIs(first_impossible(2, ("a",), [("hit", "a"), ("miss", "b")]), None)

    def test_the_event_that_makes_it_impossible(self):
        self.assertEqual(first_impossible(2, (), [("hit", "a")]), 0)
        self.assertEqual(first_impossible(2, ("x", "y"), HELD_LOG), 2)
        self.assertEqual(first_impossible(2, (), RELEASED_LOG), 2)
        self.assertEqual(first_impossible(2, (), RELEASED_LOG + [("hit", "z")]), 2)
        self.assertEqual(first_impossible(2, ("x", "y"), HELD_LOG + [("hit", "z")]), 2)

    def test_every_index_of_a_log(self):
        log = misses("abcabcab")
        for index in range(len(log)):
            wrong = log[:index] + [("hit", "z")] + log[index:]
            self.assertEqual(first_impossible(2, (), wrong), index)

    def test_all_small_cases(self):
        for capacity, start, log in oracle.small_cases(4):
            expected = None
            for index in range(len(log)):
                if expected is None and not oracle.replays(capacity, start, log[:index + 1]):
                    expected = index
            self.assertEqual(first_impossible(capacity, start, log), expected, (capacity, start, log))


if __name__ == "__main__":
    unittest.main()
