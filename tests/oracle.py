"""The definitions of the document, written down once more, slowly and in another way than in the package."""

from itertools import product

PAGES = ("a", "b", "c")
STARTS = ((), ("a",), ("b",), ("b", "a"), ("c", "a"), ("x", "a"), ("c", "a", "b"))


def small_logs(most_events, pages=PAGES):
    """Return all logs over these pages with at most this number of events."""
    events = [(mark, page) for page in pages for mark in ("hit", "miss")]
    return [list(log) for many in range(most_events + 1) for log in product(events, repeat=many)]


def small_cases(most_events, pages=PAGES):
    """Return (capacity, start, log) for all small logs, starts and capacities that fit each other."""
    return [
        (capacity, start, log)
        for log in small_logs(most_events, pages)
        for start in STARTS
        for capacity in range(max(1, len(start)), 5)
    ]


def size(capacity, start, log, moment):
    misses = sum(1 for mark, page in log[:moment] if mark == "miss")
    return min(capacity, len(start) + misses)


def sizes(capacity, start, log):
    return [size(capacity, start, log, moment) for moment in range(len(log) + 1)]


def evicting_misses(capacity, start, log):
    return [
        index
        for index, (mark, page) in enumerate(log)
        if mark == "miss" and size(capacity, start, log, index) == capacity
    ]


def gap(page, begin, log):
    for end in range(begin + 1, len(log)):
        if log[end][1] == page:
            return (page, begin, end, {"hit": "held", "miss": "released"}[log[end][0]])
    return (page, begin, None, "open")


def gaps(start, log):
    found = [gap(page, -1, log) for page in start]
    return found + [gap(page, begin, log) for begin, (mark, page) in enumerate(log)]


def held_counts(capacity, start, log):
    return [
        (e, sum(1 for page, begin, end, kind in gaps(start, log) if kind == "held" and begin < e < end))
        for e in evicting_misses(capacity, start, log)
    ]


def replays(capacity, start, log):
    """Return all histories, each as a pair of the evicted pages and the contents at all moments."""
    found = [([], [frozenset(start)])]
    for mark, page in log:
        longer = []
        for evicted, contents in found:
            now = contents[-1]
            if mark == "hit" and page in now:
                longer.append((evicted, contents + [now]))
            if mark == "miss" and page not in now and len(now) < capacity:
                longer.append((evicted, contents + [now | {page}]))
            if mark == "miss" and page not in now and len(now) == capacity:
                for victim in now:
                    longer.append((evicted + [victim], contents + [(now - {victim}) | {page}]))
        found = longer
    return [(evicted, [tuple(sorted(now)) for now in contents]) for evicted, contents in found]
