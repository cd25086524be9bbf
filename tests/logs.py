"""Longer logs, made from histories by a fixed seed, so that they are possible."""

from random import Random

NAMES = [one + two for one in "abcdefghijklm" for two in "abcdefghijklm"]


def played_log(seed, capacity, start, pages, events, hits):
    """Return a log of so many events on these pages, and the evictions that it was made with.

    Of ten events, about so many are hits, where there is something to hit.
    """
    random = Random(seed)
    shelf = list(start)
    log = []
    evicted = []
    while len(log) < events:
        others = [page for page in pages if page not in shelf]
        if shelf and (not others or random.randrange(10) < hits):
            log.append(("hit", random.choice(shelf)))
            continue
        log.append(("miss", random.choice(others)))
        if len(shelf) == capacity:
            evicted.append(shelf.pop(random.randrange(capacity)))
        shelf.append(log[-1][1])
    return log, evicted


def played_cases():
    """Return (capacity, start, log, evicted) for many logs of up to 130 events on few pages."""
    cases = []
    for seed in range(60):
        capacity = 1 + seed % 5
        pages = NAMES[:capacity + 1 + seed % 3]
        start = tuple(reversed(NAMES[2:2 + seed % (capacity + 1)]))
        events = (10, 20, 40, 130)[seed % 4]
        log, evicted = played_log(seed, capacity, start, pages, events, (0, 2, 5)[seed // 4 % 3])
        cases.append((capacity, start, log, evicted))
    return cases


def large_cases():
    """Return (capacity, start, log, evicted) for possible logs of 130 events, on few pages and on many."""
    cases = []
    for seed, capacity in enumerate((1, 2, 39, 40, 40, 40, 40, 40)):
        pages = NAMES[:capacity + (1, 20, 60)[seed % 3]]
        start = tuple(NAMES[capacity // 2:capacity // 2 + (0, capacity // 2, capacity)[seed // 2 % 3]])
        log, evicted = played_log(seed, capacity, start, pages, 130, (0, 3, 6)[seed % 3])
        cases.append((capacity, start, log, evicted))
    return cases


def turning_log(pages, events=130):
    """Return a log of misses of so many pages in turn."""
    return [("miss", NAMES[index % pages]) for index in range(events)]
