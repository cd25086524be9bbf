"""The examples of the document, sections 4 to 16, with exactly the value shown."""

import unittest

from hitlog.capacities import capacities, next_marks
from hitlog.counting import count_histories, nth_history, rank_history
from hitlog.evictions import candidates, eviction_range, known_evictions
from hitlog.finals import can_be_final, count_finals, nth_final, rank_final, why_not_final
from hitlog.gaps import gaps, held_counts
from hitlog.live import LiveShelf
from hitlog.logs import evicting_misses, is_log, replay, sizes
from hitlog.observations import first_conflict, observed_history
from hitlog.possible import first_impossible, history, is_possible, is_reason, why_not
from hitlog.presence import certain_pages, possible_pages, presence
from hitlog.repeats import is_possible_repeated, most_repeats
from hitlog.rules import first_difference, rule_evictions, rule_log
from hitlog.texts import format_shelf, parse_log


class Examples(unittest.TestCase):
    def check(self, value, shown):
        self.assertEqual(repr(value), shown)

    def test_is_log(self):
        self.check(is_log([("hit", "a"), ("out", "b")]), "False")

    def test_sizes(self):
        value = sizes(2, (), [("miss", "a"), ("miss", "b"), ("miss", "c"), ("hit", "a")])
        self.check(value, "[0, 1, 2, 2, 2]")

    def test_evicting_misses(self):
        value = evicting_misses(2, (), [("miss", "a"), ("miss", "b"), ("miss", "c"), ("hit", "a")])
        self.check(value, "[2]")

    def test_replay(self):
        value = replay(2, (), [("miss", "a"), ("miss", "b"), ("miss", "c"), ("hit", "a")], ["b"])
        self.check(value, "[(), ('a',), ('a', 'b'), ('a', 'c'), ('a', 'c')]")

    def test_gaps(self):
        value = gaps((), [("miss", "a"), ("miss", "b"), ("miss", "c"), ("hit", "a")])
        self.check(
            value,
            "[('a', 0, 3, 'held'), ('b', 1, None, 'open'), ('c', 2, None, 'open'), ('a', 3, None, 'open')]",
        )

    def test_held_counts(self):
        value = held_counts(2, (), [("miss", "a"), ("miss", "b"), ("miss", "c"), ("hit", "a")])
        self.check(value, "[(2, 1)]")

    def test_is_possible(self):
        value = is_possible(2, (), [("miss", "a"), ("miss", "b"), ("miss", "c"), ("hit", "a")])
        self.check(value, "True")

    def test_why_not_released(self):
        self.check(why_not(2, (), [("miss", "a"), ("miss", "b"), ("miss", "a")]), "('released', 0, 2)")

    def test_why_not_held(self):
        self.check(why_not(2, ("x", "y"), [("miss", "a"), ("hit", "x"), ("hit", "y")]), "('held', 0)")

    def test_is_reason(self):
        value = is_reason(2, (), [("miss", "a"), ("miss", "b"), ("miss", "a")], ("released", -1, 2))
        self.check(value, "True")

    def test_history(self):
        value = history(2, (), [("miss", "a"), ("miss", "b"), ("miss", "c"), ("miss", "a"), ("miss", "b")])
        self.check(value, "['a', 'b', 'c']")

    def test_first_impossible(self):
        self.check(first_impossible(2, (), [("miss", "a"), ("miss", "b"), ("miss", "a")]), "2")

    def test_capacities(self):
        log = [("miss", "a"), ("miss", "b"), ("miss", "c"), ("miss", "d"), ("miss", "a"), ("miss", "b")]
        self.check(capacities((), log), "(1, 3)")
        self.check(capacities((), [("miss", "a"), ("miss", "b"), ("miss", "c"), ("hit", "a")]), "(2, None)")

    def test_next_marks(self):
        self.check(next_marks(2, (), [("miss", "a"), ("miss", "b"), ("miss", "c")], "a"), "['hit', 'miss']")

    def test_presence(self):
        self.check(presence(2, (), [("miss", "a"), ("miss", "b"), ("miss", "c")], "a", 3), "'sometimes'")

    def test_certain_pages(self):
        self.check(certain_pages(2, (), [("miss", "a"), ("miss", "b"), ("miss", "c")], 3), "('c',)")

    def test_possible_pages(self):
        self.check(possible_pages(2, (), [("miss", "a"), ("miss", "b"), ("miss", "c")], 3), "('a', 'b', 'c')")

    def test_candidates(self):
        self.check(candidates(2, (), [("miss", "a"), ("miss", "b"), ("miss", "c")], 2), "['a', 'b']")

    def test_known_evictions(self):
        value = known_evictions(2, (), [("miss", "a"), ("miss", "b"), ("miss", "c"), ("miss", "a"), ("miss", "b")])
        self.check(value, "[(2, 'a'), (3, 'b')]")

    def test_eviction_range(self):
        value = eviction_range(2, (), [("miss", "a"), ("miss", "b"), ("miss", "c"), ("miss", "a"), ("miss", "b")], 4)
        self.check(value, "(3, 3)")

    def test_finals(self):
        log = [("miss", "a"), ("miss", "b"), ("miss", "c"), ("miss", "a"), ("miss", "b")]
        self.check(why_not_final(2, (), log, ("a", "c")), "('held', 4)")
        self.check(can_be_final(2, (), log, ("b", "c")), "True")
        self.check(count_finals(2, (), log), "2")
        self.check(nth_final(2, (), log, 0), "('c', 'b')")
        self.check(rank_final(2, (), log, ("a", "b")), "1")

    def test_first_conflict(self):
        value = first_conflict(1, (), [("miss", "a"), ("miss", "b")], [(1, "a", True), (2, "a", True)])
        self.check(value, "1")

    def test_observed_history(self):
        value = observed_history(2, (), [("miss", "a"), ("miss", "b"), ("miss", "c")], [(3, "a", True)])
        self.check(value, "['b']")

    def test_counting(self):
        log = [("miss", "a"), ("miss", "b"), ("miss", "c"), ("miss", "d")]
        self.check(count_histories(2, (), log), "4")
        self.check(nth_history(2, (), log, 2), "['b', 'a']")
        self.check(rank_history(2, (), log, ["b", "c"]), "3")

    def test_repeats(self):
        self.check(most_repeats(2, (), [("miss", "a"), ("miss", "b")]), "1")
        self.check(is_possible_repeated(1, (), [("miss", "a"), ("miss", "b")], 1000000), "True")

    def test_rules(self):
        value = rule_log("LRU", 2, (), ["a", "b", "a", "c", "b"])
        self.check(value, "[('miss', 'a'), ('miss', 'b'), ('hit', 'a'), ('miss', 'c'), ('miss', 'b')]")
        self.check(rule_evictions("OPT", 2, (), ["a", "b", "a", "c", "b"]), "['a']")
        log = [("miss", "a"), ("miss", "b"), ("hit", "a"), ("miss", "c"), ("miss", "b")]
        self.check(first_difference("FIFO", 2, (), log), "4")

    def test_live_shelf(self):
        shelf = LiveShelf(2)
        for page in ("a", "b", "c"):
            self.check(shelf.request(page, "miss"), "None")
        self.check(shelf.observe("a", True), "None")
        self.check(shelf.certain(), "('a', 'c')")

    def test_texts(self):
        self.check(parse_log("-a -b +a"), "[('miss', 'a'), ('miss', 'b'), ('hit', 'a')]")
        self.check(format_shelf(("b", "a")), "'b a'")


if __name__ == "__main__":
    unittest.main()
