"""Tests of [30] and [31]: a shelf whose log and observations grow."""

import copy
import inspect
import time
import unittest
from itertools import product
from random import Random

from hitlog.capacities import next_marks
from hitlog.errors import (
    InvalidCapacity,
    InvalidMark,
    InvalidPage,
    InvalidPresence,
    InvalidShelf,
    NothingToUndo,
    NotPossible,
)
from hitlog.live import LiveShelf
from hitlog.logs import replay
from hitlog.presence import certain_pages, possible_pages
from tests import oracle
from tests.logs import NAMES, large_cases, played_cases, turning_log
from tests.values import (
    NO_INTEGERS,
    NO_PAGES,
    RIGHT_PAGES,
    WRONG_CAPACITIES,
    WRONG_MARKS,
    WRONG_PAGES,
    WRONG_SHELVES,
    Refusing,
)


def shelf_of(capacity, start, log):
    shelf = LiveShelf(capacity, start)
    for mark, page in log:
        shelf.request(page, mark)
    return shelf


def misses(pages):
    return [("miss", page) for page in pages]


def answers(shelf, pages):
    """Return all that the shelf tells."""
    marks = [shelf.marks(page) for page in pages]
    return (shelf.events(), shelf.certain(), shelf.possible(), len(shelf), marks)


class Methods(unittest.TestCase):
    def test_without_actions(self):
        shelf = LiveShelf(2)
        self.assertEqual(shelf.events(), [])
        self.assertEqual(len(shelf), 0)
        self.assertEqual((shelf.certain(), shelf.possible()), ((), ()))
        self.assertEqual(shelf.marks("a"), ["miss"])
        shelf = LiveShelf(3, ("b", "a"))
        self.assertEqual((shelf.certain(), shelf.possible()), (("a", "b"), ("a", "b")))
        self.assertEqual([shelf.marks(page) for page in "abc"], [["hit"], ["hit"], ["miss"]])
        self.assertEqual((shelf.events(), len(shelf)), ([], 0))

    def test_requests(self):
        shelf = LiveShelf(2, ("x",))
        self.assertIs(shelf.request("x", "hit"), None)
        self.assertIs(shelf.request("a", "miss"), None)
        self.assertEqual(shelf.certain(), ("a", "x"))
        self.assertIs(shelf.request("b", "miss"), None)
        self.assertEqual(shelf.events(), [("hit", "x"), ("miss", "a"), ("miss", "b")])
        self.assertEqual((shelf.certain(), shelf.possible(), len(shelf)), (("b",), ("a", "b", "x"), 3))
        self.assertEqual(shelf.marks("a"), ["hit", "miss"])
        shelf.request("a", "hit")
        self.assertEqual((shelf.certain(), shelf.possible(), len(shelf)), (("a", "b"), ("a", "b"), 4))

    def test_observations(self):
        shelf = shelf_of(2, (), misses("abc"))
        self.assertIs(shelf.observe("a", True), None)
        self.assertEqual((shelf.certain(), shelf.possible(), len(shelf)), (("a", "c"), ("a", "c"), 4))
        self.assertEqual(shelf.events(), misses("abc"))
        self.assertEqual([shelf.marks(page) for page in "abcz"], [["hit"], ["miss"], ["hit"], ["miss"]])
        shelf.request("b", "miss")
        self.assertEqual((shelf.certain(), shelf.possible()), (("b",), ("a", "b", "c")))

    def test_a_page_that_was_seen_to_be_gone(self):
        shelf = shelf_of(2, (), misses("abc"))
        shelf.observe("a", False)
        self.assertEqual((shelf.certain(), shelf.possible()), (("b", "c"), ("b", "c")))
        self.assertEqual(shelf.marks("a"), ["miss"])
        shelf.request("d", "miss")
        self.assertEqual((shelf.certain(), shelf.possible()), (("d",), ("b", "c", "d")))
        self.assertEqual(shelf.marks("a"), ["miss"])
        shelf.request("a", "miss")
        self.assertEqual(shelf.certain(), ("a",))

    def test_observations_of_a_page_that_does_not_occur(self):
        shelf = shelf_of(2, (), misses("ab"))
        shelf.observe("z", False)
        with self.assertRaises(NotPossible):
            shelf.observe("z", True)
        self.assertEqual((shelf.certain(), len(shelf)), (("a", "b"), 3))
        shelf.request("z", "miss")
        self.assertEqual(shelf.certain(), ("z",))
        shelf.observe("z", True)

    def test_repeated_observations(self):
        shelf = shelf_of(2, (), misses("abc"))
        for count in range(5):
            shelf.observe("a", True)
            shelf.observe("b", False)
        self.assertEqual((len(shelf), shelf.certain()), (13, ("a", "c")))

    def test_marks_for_a_page_that_does_not_occur(self):
        shelf = shelf_of(1, ("x",), misses("ab"))
        for page in RIGHT_PAGES:
            self.assertEqual(shelf.marks(page), ["hit"] if page == "b" else ["miss"])
        for page in ("z", "zz", "x", "a"):
            self.assertEqual(shelf.marks(page), ["miss"])

    def test_alphabetical_order(self):
        shelf = shelf_of(5, (), misses(["b", "ab", "aa", "a", "abc"]))
        self.assertEqual(shelf.certain(), ("a", "aa", "ab", "abc", "b"))
        shelf.request("ac", "miss")
        self.assertEqual(shelf.possible(), ("a", "aa", "ab", "abc", "ac", "b"))

    def test_undo(self):
        shelf = LiveShelf(2)
        shelf.request("a", "miss")
        shelf.observe("a", True)
        shelf.request("b", "miss")
        shelf.observe("z", False)
        self.assertEqual(shelf.undo(), "observe")
        self.assertEqual(shelf.undo(), "request")
        self.assertEqual((shelf.events(), len(shelf)), (misses("a"), 2))
        self.assertEqual(shelf.undo(), "observe")
        self.assertEqual(shelf.undo(), "request")
        self.assertEqual((shelf.events(), len(shelf), shelf.certain()), ([], 0, ()))
        with self.assertRaises(NothingToUndo) as caught:
            shelf.undo()
        self.assertIs(type(caught.exception), NothingToUndo)
        shelf.request("a", "miss")
        self.assertEqual(shelf.certain(), ("a",))

    def test_undo_takes_back_what_an_observation_told(self):
        shelf = shelf_of(2, (), misses("abc"))
        shelf.observe("a", True)
        self.assertEqual(shelf.marks("b"), ["miss"])
        shelf.undo()
        self.assertEqual(shelf.marks("b"), ["hit", "miss"])
        shelf.request("b", "hit")
        shelf.undo()
        shelf.observe("b", False)
        self.assertEqual(shelf.certain(), ("a", "c"))

    def test_undo_only_the_latest_action(self):
        shelf = shelf_of(2, (), misses("ab"))
        shelf.observe("a", True)
        shelf.request("c", "miss")
        shelf.undo()
        # The observation is one of moment 2 again, and does not hold back the next miss.
        shelf.request("d", "miss")
        self.assertEqual(shelf.possible(), ("a", "b", "d"))

    def test_kinds_of_the_results(self):
        shelf = shelf_of(2, (), misses("abc"))
        self.assertIs(type(shelf.events()), list)
        self.assertIs(type(shelf.marks("a")), list)
        self.assertIs(type(shelf.certain()), tuple)
        self.assertIs(type(shelf.possible()), tuple)
        self.assertIs(type(len(shelf)), int)
        for event in shelf.events():
            self.assertIs(type(event), tuple)


class Interface(unittest.TestCase):
    names = ["request", "observe", "undo", "events", "marks", "certain", "possible", "__len__"]

    def test_the_class_and_its_methods_are_defined_in_the_file(self):
        self.assertEqual(LiveShelf.__module__, "hitlog.live")
        for name in self.names + ["__init__"]:
            self.assertTrue(inspect.isfunction(vars(LiveShelf)[name]), name)

    def test_the_names_of_the_parameters(self):
        expected = {
            LiveShelf: ["capacity", "start"],
            LiveShelf.request: ["self", "page", "mark"],
            LiveShelf.observe: ["self", "page", "present"],
            LiveShelf.marks: ["self", "page"],
        }
        for name, parameters in expected.items():
            self.assertEqual(list(inspect.signature(name).parameters), parameters)
        self.assertEqual(inspect.signature(LiveShelf).parameters["start"].default, ())

    def test_arguments_by_name(self):
        shelf = LiveShelf(start=("x",), capacity=2)
        shelf.request(mark="miss", page="a")
        shelf.request(page="b", mark="miss")
        shelf.observe(present=False, page="x")
        shelf.observe("a", present=True)
        self.assertEqual(shelf.marks(page="a"), ["hit"])
        self.assertEqual(shelf.certain(), ("a", "b"))
        self.assertEqual(LiveShelf(capacity=1).events(), [])

    def test_returned_lists_are_new(self):
        shelf = shelf_of(2, (), misses("abc"))
        for method in (shelf.events, lambda: shelf.marks("a")):
            first, second = method(), method()
            self.assertEqual(first, second)
            self.assertIsNot(first, second)
            first.clear()
            second.append("x")
            self.assertEqual(method(), misses("abc") if method == shelf.events else ["hit", "miss"])
        shelf.events().append(("hit", "c"))
        self.assertEqual((len(shelf), shelf.certain()), (3, ("c",)))

    def test_two_shelves_have_nothing_in_common(self):
        one, two = LiveShelf(2), LiveShelf(2)
        one.request("a", "miss")
        one.observe("b", False)
        self.assertEqual((len(one), len(two), two.events(), two.possible()), (2, 0, [], ()))

    def test_an_earlier_result_stays(self):
        shelf = shelf_of(2, (), misses("ab"))
        events, certain = shelf.events(), shelf.certain()
        shelf.request("c", "miss")
        self.assertEqual((events, certain), (misses("ab"), ("a", "b")))

    def test_questions_change_nothing(self):
        shelf = shelf_of(2, ("x",), misses("abc"))
        shelf.observe("b", True)
        before = copy.deepcopy(vars(shelf))
        answers(shelf, ["a", "b", "z"])
        self.assertEqual(vars(shelf), before)


class AllHistories(unittest.TestCase):
    """The same actions, with a list of all histories that agree."""

    pages = "abcxz"

    def replays(self, case, log, observations):
        return [
            (evicted, contents)
            for evicted, contents in oracle.replays(*case, log)
            if evicted in oracle.agreeing([(evicted, contents)], observations)
        ]

    def check(self, case, shelf, log, observations, actions):
        told = (case, log, observations)
        last = [frozenset(contents[-1]) for _, contents in self.replays(case, log, observations)]
        self.assertTrue(last, told)
        self.assertEqual(shelf.events(), log, told)
        self.assertEqual(len(shelf), len(actions), told)
        self.assertEqual(shelf.certain(), tuple(sorted(frozenset.intersection(*last))), told)
        self.assertEqual(shelf.possible(), tuple(sorted(frozenset.union(*last))), told)
        for page in self.pages:
            marks = [mark for mark in ("hit", "miss") if self.replays(case, log + [(mark, page)], observations)]
            self.assertEqual(shelf.marks(page), marks, told)

    def attempt(self, call, allowed):
        """Make a call that raises NotPossible unless it is allowed."""
        if allowed:
            self.assertIs(call(), None)
        else:
            with self.assertRaises(NotPossible):
                call()

    def test_random_actions(self):
        random = Random(30)
        for _ in range(250):
            capacity = random.randrange(1, 4)
            case = (capacity, tuple(random.sample("abcx", random.randrange(capacity + 1))))
            self.play(random, case, 14)

    def play(self, random, case, many):
        shelf = LiveShelf(*case)
        log, observations, actions = [], [], []
        self.check(case, shelf, log, observations, actions)
        for _ in range(many):
            kind = random.choice(("request", "request", "request", "observe", "observe", "undo"))
            if kind == "request":
                event = (random.choice(("hit", "miss")), random.choice("abcx"))
                allowed = bool(self.replays(case, log + [event], observations))
                self.attempt(lambda: shelf.request(event[1], event[0]), allowed)
                log = log + [event] if allowed else log
            elif kind == "observe":
                seen = (len(log), random.choice(self.pages), random.choice((False, True)))
                allowed = bool(self.replays(case, log, observations + [seen]))
                self.attempt(lambda: shelf.observe(seen[1], seen[2]), allowed)
                observations = observations + [seen] if allowed else observations
            else:
                allowed = False
            actions = actions + [kind] if allowed else actions
            if kind == "undo" and actions:
                log, observations = self.without_latest(shelf, log, observations, actions.pop())
            self.check(case, shelf, log, observations, actions)
        while actions:
            log, observations = self.without_latest(shelf, log, observations, actions.pop())
            self.check(case, shelf, log, observations, actions)

    def without_latest(self, shelf, log, observations, action):
        self.assertEqual(shelf.undo(), action)
        return (log[:-1], observations) if action == "request" else (log, observations[:-1])

    def test_every_short_list_of_actions(self):
        requests = [(mark, page) for mark in ("hit", "miss") for page in "abc"]
        seen = [(page, present) for page in "ab" for present in (False, True)]
        for case in ((1, ()), (2, ("a",)), (2, ("b", "a"))):
            for actions in product(requests + seen, repeat=3):
                self.run_actions(case, actions)

    def run_actions(self, case, actions):
        shelf = LiveShelf(*case)
        log, observations, done = [], [], []
        for first, second in actions:
            if first in ("hit", "miss"):
                allowed = bool(self.replays(case, log + [(first, second)], observations))
                self.attempt(lambda: shelf.request(second, first), allowed)
                log = log + [(first, second)] if allowed else log
            else:
                longer = observations + [(len(log), first, second)]
                allowed = bool(self.replays(case, log, longer))
                self.attempt(lambda: shelf.observe(first, second), allowed)
                observations = longer if allowed else observations
            done = done + [first] if allowed else done
        self.check(case, shelf, log, observations, done)


class LongerLogs(unittest.TestCase):
    def test_requests_alone(self):
        for capacity, start, log, _ in played_cases() + large_cases():
            shelf = shelf_of(capacity, start, log)
            self.assertEqual(shelf.events(), log)
            self.assertEqual(shelf.certain(), certain_pages(capacity, start, log, len(log)))
            self.assertEqual(shelf.possible(), possible_pages(capacity, start, log, len(log)))
            for page in NAMES[:capacity + 4]:
                self.assertEqual(shelf.marks(page), next_marks(capacity, start, log, page))

    def test_requests_and_observations(self):
        random = Random(31)
        for capacity, start, log, evicted in played_cases():
            contents = replay(capacity, start, log, evicted)
            shelf = LiveShelf(capacity, start)
            observations = []
            for e, (mark, page) in enumerate(log):
                if random.randrange(4) == 0:
                    seen = random.choice(NAMES[:capacity + 4])
                    observations.append((e, seen, seen in contents[e]))
                    shelf.observe(seen, seen in contents[e])
                shelf.request(page, mark)
            told = oracle.told_by_contents(capacity, start, log, observations)
            self.assertEqual(shelf.certain(), told.certain(len(log)))
            self.assertEqual(shelf.possible(), told.possible(len(log)))
            self.assertEqual(len(shelf), len(log) + len(observations))

    def test_the_contents_are_observed_after_each_event(self):
        for capacity, start, log, evicted in large_cases():
            contents = replay(capacity, start, log, evicted)
            shelf = LiveShelf(capacity, start)
            for e, (mark, page) in enumerate(log):
                shelf.request(page, mark)
                shelf.observe(NAMES[e], NAMES[e] in contents[e + 1])
                self.assertTrue(set(shelf.certain()) <= set(contents[e + 1]) <= set(shelf.possible()))
            for page in contents[-1]:
                shelf.observe(page, True)
            self.assertEqual((shelf.certain(), shelf.possible()), (contents[-1], contents[-1]))
            while len(shelf):
                shelf.undo()
            self.assertEqual((shelf.events(), shelf.certain()), ([], tuple(sorted(start))))

    def test_without_delay(self):
        begun = time.perf_counter()
        shelf = shelf_of(40, tuple(NAMES[129:169]), turning_log(129, 129))
        for _ in range(3):
            self.assertEqual(shelf.certain(), (NAMES[128],))
            self.assertEqual(len(shelf.possible()), 169)
            for page in NAMES[:130]:
                shelf.marks(page)
        self.assertLess(time.perf_counter() - begun, 30)

    def test_a_capacity_that_has_many_digits(self):
        shelf = shelf_of(10**44, ("x",), misses("ab"))
        self.assertEqual((shelf.certain(), shelf.possible()), (("a", "b", "x"), ("a", "b", "x")))


class Errors(unittest.TestCase):
    def setUp(self):
        self.shelf = shelf_of(2, ("x",), misses("abc"))
        self.shelf.observe("a", True)
        self.before = copy.deepcopy(vars(self.shelf))

    def tearDown(self):
        """No call that raised an error has changed the shelf."""
        self.assertEqual(vars(self.shelf), self.before)
        self.assertEqual((self.shelf.events(), self.shelf.certain(), len(self.shelf)), (misses("abc"), ("a", "c"), 4))
        self.assertEqual(self.shelf.undo(), "observe")

    def expect(self, error, function, *arguments):
        with self.assertRaises(error) as caught:
            function(*arguments)
        self.assertIs(type(caught.exception), error)

    def test_capacity_and_start(self):
        for capacity in WRONG_CAPACITIES:
            self.expect(InvalidCapacity, LiveShelf, capacity)
            self.expect(InvalidCapacity, LiveShelf, capacity, ["a"])
        for start in WRONG_SHELVES:
            self.expect(InvalidShelf, LiveShelf, 40, start)
        self.expect(InvalidShelf, LiveShelf, 1, ("a", "b"))
        self.expect(InvalidShelf, LiveShelf, 2, ("a", "b", "c"))

    def test_pages(self):
        for page in WRONG_PAGES + [Refusing()]:
            for second in ("hit", "miss", None, True):
                self.expect(InvalidPage, self.shelf.request, page, second)
                self.expect(InvalidPage, self.shelf.observe, page, second)
            self.expect(InvalidPage, self.shelf.marks, page)

    def test_marks(self):
        for mark in WRONG_MARKS + NO_PAGES + [Refusing()]:
            for page in ("a", "b", "z"):
                self.expect(InvalidMark, self.shelf.request, page, mark)

    def test_presence(self):
        no_bools = [0, 1, "", "True", "hit", None, (), [], (True,), [False], 1.0, 2, -1, 10**44, Refusing()]
        for present in no_bools + [value for value in NO_INTEGERS if not isinstance(value, bool)]:
            for page in ("a", "b", "z"):
                self.expect(InvalidPresence, self.shelf.observe, page, present)

    def test_requests_that_are_not_possible(self):
        for mark, page in (("miss", "a"), ("hit", "b"), ("miss", "c"), ("hit", "x"), ("hit", "z")):
            self.expect(NotPossible, self.shelf.request, page, mark)

    def test_observations_that_are_not_possible(self):
        for page, present in (("a", False), ("b", True), ("c", False), ("x", True), ("z", True)):
            self.expect(NotPossible, self.shelf.observe, page, present)

    def test_nothing_to_undo(self):
        for shelf in (LiveShelf(1), LiveShelf(2, ("a",))):
            for _ in range(3):
                self.expect(NothingToUndo, shelf.undo)
            self.assertEqual((len(shelf), shelf.events()), (0, []))


if __name__ == "__main__":
    unittest.main()
