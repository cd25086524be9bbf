"""Tests over the whole program: its functions agree with each other on the same log, whatever the pages are called."""

import unittest
from random import Random

from hitlog.capacities import capacities, next_marks
from hitlog.counting import count_histories, nth_history, rank_history
from hitlog.errors import NotPossible
from hitlog.evictions import candidates, eviction_range, known_evictions
from hitlog.finals import can_be_final, count_finals, nth_final, rank_final, why_not_final
from hitlog.gaps import gaps, held_counts
from hitlog.live import LiveShelf
from hitlog.logs import evicting_misses, replay, sizes
from hitlog.observations import first_conflict, observed_history
from hitlog.possible import first_impossible, history, is_possible, is_reason, why_not
from hitlog.presence import certain_pages, possible_pages, presence
from hitlog.repeats import is_possible_repeated, most_repeats
from hitlog.rules import first_difference, rule_evictions, rule_log
from hitlog.texts import format_log, format_shelf, parse_log, parse_shelf
from tests import oracle
from tests.logs import large_cases, played_cases

RULES = ("LRU", "FIFO", "OPT")


def some_small_cases(step):
    """Return one in so many of the small cases, of all lengths."""
    return oracle.small_cases(4)[::step]


def possible_cases():
    """Return small and longer logs that are possible."""
    longer = [(capacity, start, log) for capacity, start, log, _ in played_cases()[::3] + large_cases()[::3]]
    return [case for case in some_small_cases(13) if is_possible(*case)] + longer


def all_pages(start, log):
    """Return all pages that occur, and one that does not."""
    return sorted(set(start) | {page for _, page in log}) + ["zzz"]


def some_moments(log):
    """Return the moments of a short log, and some of a long one."""
    return sorted({0, 1, len(log) // 2, len(log) - 1, len(log)} & set(range(len(log) + 1)))


class Possible(unittest.TestCase):
    """What is possible, as [14], [17], [18], [23], [25] and [28] tell it."""

    def test_why_not_and_the_histories(self):
        for case in some_small_cases(7):
            possible = is_possible(*case)
            reason = why_not(*case)
            self.assertIs(reason is None, possible, case)
            self.assertIs(is_reason(*case, reason), not possible, case)
            self.assertIs(history(*case) is None, not possible, case)
            self.assertIs(first_impossible(*case) is None, possible, case)
            self.assertIs(count_histories(*case) > 0, possible, case)
            self.assertIs(is_possible_repeated(*case, 1), possible, case)
            self.assertIs(most_repeats(*case) == 0, not possible, case)

    def test_the_smallest_impossible_event(self):
        for capacity, start, log in some_small_cases(7):
            index = first_impossible(capacity, start, log)
            if index is not None:
                self.assertIs(is_possible(capacity, start, log[:index]), True)
                event = log[index]
                self.assertNotIn(event[0], next_marks(capacity, start, log[:index], event[1]))

    def test_capacities(self):
        for _, start, log in some_small_cases(11):
            right = [many for many in range(max(1, len(start)), 9) if is_possible(many, start, log)]
            found = capacities(start, log)
            if found is None:
                self.assertEqual(right, [])
            else:
                least, greatest = found
                expected = range(least, 9 if greatest is None else greatest + 1)
                self.assertEqual(right, list(expected), (start, log))

    def test_logs_that_are_not_possible(self):
        for case in some_small_cases(17):
            if not is_possible(*case):
                for call in (count_finals, known_evictions):
                    self.assertRaises(NotPossible, call, *case)
                self.assertRaises(NotPossible, can_be_final, *case, ())
                self.assertRaises(NotPossible, first_conflict, *case, [])
                self.assertRaises(NotPossible, next_marks, *case, "a")
                self.assertRaises(NotPossible, certain_pages, *case, 0)

    def test_next_marks(self):
        for capacity, start, log in possible_cases():
            for page in all_pages(start, log)[-20:]:
                marks = next_marks(capacity, start, log, page)
                for mark in ("hit", "miss"):
                    self.assertIs(is_possible(capacity, start, log + [(mark, page)]), mark in marks)

    def test_finals_are_what_hits_of_all_pages_may_follow(self):
        for capacity, start, log in possible_cases():
            many = count_finals(capacity, start, log)
            self.assertGreater(many, 0)
            for index in {0, many // 2, many - 1}:
                pages = nth_final(capacity, start, log, index)
                self.assertIs(is_possible(capacity, start, log + [("hit", page) for page in pages]), True)
                self.assertEqual(rank_final(capacity, start, log, pages), index)
                self.check_another_final((capacity, start, log), pages)

    def check_another_final(self, case, pages):
        capacity, start, log = case
        for page in all_pages(start, log)[:10]:
            if page not in pages and pages:
                other = pages[1:] + (page,)
                hits = [("hit", one) for one in other]
                self.assertIs(can_be_final(*case, other), is_possible(capacity, start, log + hits), (case, other))

    def test_observations_that_a_hit_would_make(self):
        for capacity, start, log in possible_cases():
            self.assertIs(first_conflict(capacity, start, log, []), None)
            for moment in some_moments(log):
                for page in all_pages(start, log)[-10:]:
                    longer = log[:moment] + [("hit", page)] + log[moment:]
                    conflict = first_conflict(capacity, start, log, [(moment, page, True)])
                    self.assertIs(conflict is None, is_possible(capacity, start, longer), (log, moment, page))


class Presence(unittest.TestCase):
    """What is on the shelf, as [19] to [22], [25] and [30] tell it."""

    def test_presence_and_pages(self):
        for case in possible_cases():
            for moment in some_moments(case[2]):
                certain, some = certain_pages(*case, moment), possible_pages(*case, moment)
                for page in all_pages(*case[1:])[-30:]:
                    expected = "always" if page in certain else "sometimes" if page in some else "never"
                    self.assertEqual(presence(*case, page, moment), expected, (case, page, moment))

    def test_observations(self):
        for case in possible_cases():
            for moment in some_moments(case[2]):
                for page in all_pages(*case[1:])[-10:]:
                    told = [first_conflict(*case, [(moment, page, present)]) for present in (True, False)]
                    expected = {"always": [None, 0], "sometimes": [None, None], "never": [0, None]}
                    self.assertEqual(told, expected[presence(*case, page, moment)], (case, page, moment))

    def test_candidates(self):
        for case in possible_cases():
            known = dict(known_evictions(*case))
            for e in evicting_misses(*case)[-5:]:
                found = candidates(*case, e)
                self.assertEqual(found == [known.get(e)], len(found) == 1)
                for page in all_pages(*case[1:])[-20:]:
                    observations = [(e, page, True), (e + 1, page, False)]
                    goes = first_conflict(*case, observations) is None
                    self.assertIs(page in found, goes, (case, e, page))
                self.assertTrue(set(found) <= set(possible_pages(*case, e)) - set(certain_pages(*case, e + 1)))

    def test_eviction_ranges(self):
        for case in possible_cases():
            released = [gap for gap in gaps(*case[1:]) if gap[3] == "released"]
            for page, begin, end, _ in released[-5:]:
                first, last = eviction_range(*case, end)
                self.assertTrue(begin < first <= last < end)
                self.assertIn(page, candidates(*case, first))
                self.assertIn(page, candidates(*case, last))
                for moment in range(begin + 1, end + 1):
                    expected = "always" if moment <= first else "never" if moment > last else "sometimes"
                    self.assertEqual(presence(*case, page, moment), expected, (case, page, moment))

    def test_a_live_shelf(self):
        for capacity, start, log in possible_cases():
            shelf = LiveShelf(capacity, start)
            for mark, page in log:
                shelf.request(page, mark)
            case = (capacity, start, log)
            self.assertEqual(shelf.events(), log)
            self.assertEqual(shelf.certain(), certain_pages(*case, len(log)))
            self.assertEqual(shelf.possible(), possible_pages(*case, len(log)))
            for page in all_pages(start, log)[-20:]:
                self.assertEqual(shelf.marks(page), next_marks(*case, page))
                told = presence(*case, page, len(log))
                self.check_what_is_seen_now(shelf, page, told)

    def check_what_is_seen_now(self, shelf, page, told):
        for present, no in ((True, "never"), (False, "always")):
            if told == no:
                self.assertRaises(NotPossible, shelf.observe, page, present)
            else:
                shelf.observe(page, present)
                self.assertIs(page in shelf.certain(), present)
                self.assertIs(page in shelf.possible(), present)
                self.assertEqual(shelf.undo(), "observe")

    def test_an_observed_history_and_a_live_shelf(self):
        random = Random(33)
        for capacity, start, log in possible_cases():
            contents = replay(capacity, start, log, history(capacity, start, log))
            shelf = LiveShelf(capacity, start)
            observations = []
            for e, (mark, page) in enumerate(log):
                shelf.request(page, mark)
                other = random.choice(all_pages(start, log))
                observations.append((e + 1, other, other in contents[e + 1]))
                shelf.observe(other, other in contents[e + 1])
            found = observed_history(capacity, start, log, observations)
            last = replay(capacity, start, log, found)[-1]
            self.assertTrue(set(shelf.certain()) <= set(last) <= set(shelf.possible()))


class Histories(unittest.TestCase):
    """Single histories, as [12], [15], [23] and [27] tell them."""

    def check_history(self, case, evicted):
        contents = replay(*case, evicted)
        self.assertEqual([len(shelf) for shelf in contents], sizes(*case))
        self.assertIs(why_not_final(*case, contents[-1]), None)
        for e, page in list(zip(evicting_misses(*case), evicted))[-5:]:
            self.assertIn(page, candidates(*case, e))
        seen = [(moment, page, True) for moment in some_moments(case[2]) for page in contents[moment]]
        self.assertIs(first_conflict(*case, seen), None)
        if len(evicted) <= 16:
            self.assertEqual(nth_history(*case, rank_history(*case, evicted)), evicted)

    def test_the_history_of_the_rule(self):
        for case in possible_cases():
            self.check_history(case, history(*case))

    def test_observed_histories(self):
        for case in possible_cases():
            for page in all_pages(*case[1:])[:3]:
                for present in (True, False):
                    observations = [(len(case[2]), page, present)]
                    found = observed_history(*case, observations)
                    self.assertIs(found is None, first_conflict(*case, observations) is not None)
                    if found is not None:
                        self.check_history(case, found)

    def test_rules_of_eviction(self):
        for capacity, start, log in possible_cases():
            requests = [page for _, page in log]
            for rule in RULES:
                played = rule_log(rule, capacity, start, requests)
                self.check_history((capacity, start, played), rule_evictions(rule, capacity, start, requests))
                self.assertIs(first_difference(rule, capacity, start, log) is None, played == log)

    def test_contents_that_are_seen_at_the_end_are_final(self):
        for case in possible_cases():
            many = count_finals(*case)
            pages = nth_final(*case, many // 3)
            found = observed_history(*case, [(len(case[2]), page, True) for page in pages])
            self.assertEqual(replay(*case, found)[-1], tuple(sorted(pages)))

    def test_texts(self):
        for _, start, log in possible_cases():
            self.assertEqual(parse_log(format_log(log)), log)
            self.assertEqual(parse_shelf(format_shelf(start)), start)


class OtherNames(unittest.TestCase):
    """Other names for the pages give the same answers with the other names."""

    def setUp(self):
        self.names = {}

    def rename(self, value):
        """Return a value with the other names; marks, kinds and the like are no pages."""
        if isinstance(value, str):
            return self.names.get(value, value)
        if isinstance(value, (list, tuple)):
            return type(value)(self.rename(entry) for entry in value)
        return value

    def check(self, function, *arguments):
        self.assertEqual(function(*self.rename(arguments)), self.rename(function(*arguments)), (function, arguments))

    def check_in_any_order(self, function, *arguments):
        """The same for a result that is in alphabetical order."""
        found = function(*arguments)
        other = function(*self.rename(arguments))
        self.assertEqual(other, type(found)(sorted(self.rename(found))), (function, arguments))

    def name_anew(self, case):
        """Choose other names, some of them such as the program uses itself, and in another order."""
        pages = all_pages(*case[1:])
        others = ["hit", "miss", "held", "open", "lru"]
        others += [one + two + "q" for one in "zyxwvutsr" for two in "abcdefghijklmnopqrst"]
        Random(len(pages)).shuffle(others)
        self.names = dict(zip(pages, others))

    def test_logs_that_are_possible_or_not(self):
        for case in some_small_cases(19) + [case[:3] for case in large_cases()[::3]]:
            self.name_anew(case)
            for function in (sizes, evicting_misses, held_counts, is_possible, why_not, history, first_impossible):
                self.check(function, *case)
            self.check(most_repeats, *case)
            self.check(gaps, *case[1:])
            self.check(capacities, *case[1:])
            self.check(is_reason, *case, ("released", -1, 2))
            for rule in RULES:
                self.check(first_difference, rule, *case)
                self.check(rule_log, rule, *case[:2], [page for _, page in case[2]])
                self.check(rule_evictions, rule, *case[:2], [page for _, page in case[2]])
            if len(evicting_misses(*case)) <= 16:
                self.check(count_histories, *case)

    def test_logs_that_are_possible(self):
        for case in possible_cases():
            self.name_anew(case)
            self.check(known_evictions, *case)
            self.check(count_finals, *case)
            many = count_finals(*case)
            for index in (0, many // 2, many - 1):
                self.check(nth_final, *case, index)
                self.check(rank_final, *case, nth_final(*case, index))
            for page in all_pages(*case[1:])[-5:]:
                self.check(next_marks, *case, page)
                self.check(why_not_final, *case, (page,))
                for moment in some_moments(case[2]):
                    self.check(presence, *case, page, moment)
                    self.check(first_conflict, *case, [(moment, page, False), (moment, "zzz", False)])
            for gap in gaps(*case[1:])[-10:]:
                if gap[3] == "released":
                    self.check(eviction_range, *case, gap[2])

    def test_answers_in_alphabetical_order(self):
        for case in possible_cases():
            self.name_anew(case)
            for moment in some_moments(case[2]):
                self.check_in_any_order(certain_pages, *case, moment)
                self.check_in_any_order(possible_pages, *case, moment)
            for e in evicting_misses(*case)[-3:]:
                self.check_in_any_order(candidates, *case, e)
            contents = replay(*case, history(*case))
            others = replay(*self.rename(case), self.rename(history(*case)))
            self.assertEqual(others, [tuple(sorted(self.rename(shelf))) for shelf in contents])

    def test_a_live_shelf(self):
        for case in possible_cases():
            self.name_anew(case)
            one = LiveShelf(*case[:2])
            two = LiveShelf(*self.rename(case[:2]))
            for mark, page in case[2]:
                one.request(page, mark)
                two.request(self.rename(page), mark)
            self.assertEqual(two.events(), self.rename(one.events()))
            self.assertEqual(two.certain(), tuple(sorted(self.rename(one.certain()))))
            self.assertEqual(two.possible(), tuple(sorted(self.rename(one.possible()))))

    def test_all_histories(self):
        for case in some_small_cases(29):
            self.name_anew(case)
            found = [self.rename(nth_history(*case, index)) for index in range(count_histories(*case))]
            other = self.rename(case)
            self.assertEqual([nth_history(*other, index) for index in range(count_histories(*other))], sorted(found))


if __name__ == "__main__":
    unittest.main()
