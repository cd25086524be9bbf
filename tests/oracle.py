"""The definitions of the document, written down once more, slowly and in another way than in the package."""

from itertools import product

PAGES = ("a", "b", "c")
STARTS = ((), ("a",), ("b",), ("b", "a"), ("c", "a"), ("x", "a"), ("c", "a", "b"))


def small_logs(most_events, pages=PAGES):
    """Return all logs over these pages with at most this number of events."""
    events = [(mark, page) for page in pages for mark in ("hit", "miss")]
    return [list(log) for many in range(most_events + 1) for log in product(events, repeat=many)]


def small_cases(most_events, pages=PAGES):
    """Return (capacity, start, log) for all small logs, starts and capacities that fit each other."""
    return [
        (capacity, start, log)
        for log in small_logs(most_events, pages)
        for start in STARTS
        for capacity in range(max(1, len(start)), 5)
    ]


def size(capacity, start, log, moment):
    misses = sum(1 for mark, page in log[:moment] if mark == "miss")
    return min(capacity, len(start) + misses)


def sizes(capacity, start, log):
    return [size(capacity, start, log, moment) for moment in range(len(log) + 1)]


def evicting_misses(capacity, start, log):
    return [
        index
        for index, (mark, page) in enumerate(log)
        if mark == "miss" and size(capacity, start, log, index) == capacity
    ]


def gap(page, begin, log):
    for end in range(begin + 1, len(log)):
        if log[end][1] == page:
            return (page, begin, end, {"hit": "held", "miss": "released"}[log[end][0]])
    return (page, begin, None, "open")


def gaps(start, log):
    found = [gap(page, -1, log) for page in start]
    return found + [gap(page, begin, log) for begin, (mark, page) in enumerate(log)]


def held_counts(capacity, start, log):
    return [
        (e, sum(1 for page, begin, end, kind in gaps(start, log) if kind == "held" and begin < e < end))
        for e in evicting_misses(capacity, start, log)
    ]


def reasons(capacity, start, log):
    """Return all violations of the conditions of [9], in the order of [14], with b up to the end of the log."""
    found = []
    for index, (mark, page) in enumerate(log):
        if mark == "hit" and page not in start and page not in [other for _, other in log[:index]]:
            found.append(("first", index))
    for e, held in held_counts(capacity, start, log):
        if not held <= capacity - 1:
            found.append(("held", e))
    misses = evicting_misses(capacity, start, log)
    released = [(begin, end) for _, begin, end, kind in gaps(start, log) if kind == "released"]
    for b in range(len(log) + 1):
        for a in range(b - 1, -2, -1):
            inside = [1 for begin, end in released if a <= begin and end <= b]
            if not len(inside) <= len([e for e in misses if a < e < b]):
                found.append(("released", a, b))
    return found


def history(capacity, start, log):
    """Return what the rule of [15] evicts, step by step, or None if it comes to an end before the log does."""
    shelf = list(start)
    evicted = []
    for e, (mark, page) in enumerate(log):
        if (mark == "hit") != (page in shelf):
            return None
        if mark == "hit":
            continue
        if len(shelf) == capacity:
            victim = victim_of_the_rule(shelf, start, log, e)
            if victim is None:
                return None
            shelf.remove(victim)
            evicted.append(victim)
        shelf.append(page)
    return evicted


def victim_of_the_rule(shelf, start, log, e):
    around = [one for one in gaps(start, log) if one[0] in shelf and one[1] < e and (one[2] is None or e < one[2])]
    released = [one for one in around if one[3] == "released"]
    if released:
        return min(released, key=lambda one: one[2])[0]
    # Gaps are in the order of their begin, and of the start.
    still_open = [one[0] for one in around if one[3] == "open"]
    return still_open[0] if still_open else None


def steps(capacity, now, mark, page):
    """Return (evicted page or None, next contents) for all that the event can do to these contents."""
    if (mark == "hit") != (page in now):
        return []
    if mark == "hit":
        return [(None, now)]
    if len(now) < capacity:
        return [(None, now | {page})]
    return [(victim, (now - {victim}) | {page}) for victim in now]


def replays(capacity, start, log):
    """Return all histories, each as a pair of the evicted pages and the contents at all moments."""
    found = [([], [frozenset(start)])]
    for mark, page in log:
        longer = []
        for evicted, contents in found:
            for victim, after in steps(capacity, contents[-1], mark, page):
                longer.append((evicted if victim is None else evicted + [victim], contents + [after]))
        found = longer
    return [(evicted, [tuple(sorted(now)) for now in contents]) for evicted, contents in found]


class Told:
    """What all histories together tell.

    shelves[t] is the set of the contents, as frozensets, at moment t; victims[e] is the set of the evicted pages at
    the evicting miss e. If there is no history, then nothing is in shelves[0].
    """

    def __init__(self, shelves, victims):
        self.shelves = shelves
        self.victims = victims

    def presence(self, page, moment):
        seen = {page in shelf for shelf in self.shelves[moment]}
        return {True: "always", False: "never", None: "sometimes"}[seen.pop() if len(seen) == 1 else None]

    def certain(self, moment):
        return tuple(sorted(frozenset.intersection(*self.shelves[moment])))

    def possible(self, moment):
        return tuple(sorted(frozenset.union(*self.shelves[moment])))

    def known(self):
        return [(e, *pages) for e, pages in sorted(self.victims.items()) if len(pages) == 1]

    def range(self, start, log, index):
        for page, begin, end, _ in gaps(start, log):
            if end == index:
                at = [e for e in self.victims if begin < e < end and page in self.victims[e]]
                return (min(at), max(at))


def told_by_each_history(capacity, start, log):
    """Return what all histories tell, from a list of them."""
    all_replays = replays(capacity, start, log)
    shelves = [{frozenset(contents[t]) for _, contents in all_replays} for t in range(len(log) + 1)]
    misses = evicting_misses(capacity, start, log)
    return Told(shelves, {e: {evicted[k] for evicted, _ in all_replays} for k, e in enumerate(misses)})


def told_by_contents(capacity, start, log, observations=()):
    """Return the same for longer logs: the contents that can be reached and from which the log can go on.

    If there are observations, only the histories that agree with them count.
    """
    ways = []
    reached = as_observed({frozenset(start)}, observations, 0)
    for e, (mark, page) in enumerate(log):
        ways.append({now: steps(capacity, now, mark, page) for now in reached})
        reached = {after for followers in ways[-1].values() for _, after in followers}
        reached = as_observed(reached, observations, e + 1)
    shelves = [reached]
    victims = {e: set() for e in evicting_misses(capacity, start, log)}
    for e in range(len(log) - 1, -1, -1):
        going_on = set()
        for now, followers in ways[e].items():
            for victim, after in followers:
                if after in shelves[0]:
                    going_on.add(now)
                    if victim is not None:
                        victims[e].add(victim)
        shelves.insert(0, going_on)
    return Told(shelves, victims)


def as_observed(shelves, observations, moment):
    """Return those of these contents at a moment that are as observed."""
    seen_now = [(page, present) for t, page, present in observations if t == moment]
    return {shelf for shelf in shelves if all((page in shelf) == present for page, present in seen_now)}


def agreeing(all_replays, observations):
    """Return the evictions of those of these replays that agree with the observations."""
    return [
        evicted
        for evicted, contents in all_replays
        if all((page in contents[moment]) == present for moment, page, present in observations)
    ]


def first_conflict(all_replays, observations):
    """Return the length of the longest list of first observations with which a replay agrees, or None for all."""
    for index in range(len(observations)):
        if not agreeing(all_replays, observations[:index + 1]):
            return index
    return None


def pages_by_last_occurrence(start, log):
    """Return all pages that occur, in the order of [24]."""
    requests = [page for _, page in log]
    never_requested = [page for page in start if page not in requests]
    return never_requested + [page for index, page in enumerate(requests) if page not in requests[index + 1:]]


def finals(shelves, start, log):
    """Return these contents at the end, written and ordered as [24] says."""
    pages = pages_by_last_occurrence(start, log)
    written = [sorted(pages.index(page) for page in shelf) for shelf in shelves]
    return [tuple(pages[number] for number in numbers) for numbers in sorted(written)]


def why_not_final(capacity, start, log, pages):
    """Return the first of the reasons of [23] that applies."""
    if len(pages) != size(capacity, start, log, len(log)):
        return ("size", size(capacity, start, log, len(log)))
    for page in pages:
        if page not in pages_by_last_occurrence(start, log):
            return ("unknown", page)
    for e, held in held_counts(capacity, start, log):
        later = [page for _, page in log[e:]]
        if not held + len([page for page in pages if page not in later]) <= capacity - 1:
            return ("held", e)
    return None


def many_histories(capacity, start, log):
    """Return the number of histories of a longer log: how many lead to each of the contents is counted."""
    many = {frozenset(start): 1}
    for mark, page in log:
        following = {}
        for now, ways in many.items():
            for _, after in steps(capacity, now, mark, page):
                following[after] = following.get(after, 0) + ways
        many = following
    return sum(many.values())


def rule_play(rule, capacity, start, requests):
    """Return the log and the evicted pages of a rule, from the words of [29]."""
    shelf = list(start)
    latest = {page: index - len(start) for index, page in enumerate(start)}
    added = dict(latest)
    log = []
    evicted = []
    for now, page in enumerate(requests):
        log.append(("hit" if page in shelf else "miss", page))
        if page not in shelf:
            if len(shelf) == capacity:
                victim = rule_victim(rule, shelf, latest, added, requests, now)
                shelf.remove(victim)
                evicted.append(victim)
            shelf.append(page)
            added[page] = now
        latest[page] = now
    return log, evicted


def rule_victim(rule, shelf, latest, added, requests, now):
    if rule == "LRU":
        return min(shelf, key=lambda page: latest[page])
    if rule == "FIFO":
        return min(shelf, key=lambda page: added[page])
    following = {page: [t for t in range(now + 1, len(requests)) if requests[t] == page] for page in shelf}
    never = [page for page in shelf if not following[page]]
    if never:
        return min(never, key=lambda page: latest[page])
    return max(shelf, key=lambda page: following[page][0])
