"""Gaps: the stretches of a log between the occurrences of a page."""

from hitlog.logs import HIT, check_log, check_shelf, evicting_misses

HELD = "held"
RELEASED = "released"
OPEN = "open"


def gaps(start, log):
    """Return all gaps: those from the start first, then the others by their begin."""
    check_shelf(start)
    check_log(log)
    occurrences = [(page, -1) for page in start]
    for index, (_, page) in enumerate(log):
        occurrences.append((page, index))
    # From the last occurrence to the first, the next one of each page is known.
    following = {}
    found = []
    for page, begin in reversed(occurrences):
        end = following.get(page)
        found.append((page, begin, end, _kind(log, end)))
        following[page] = begin
    return found[::-1]


def held_counts(capacity, start, log):
    """Return (e, held(e)) for all evicting misses e."""
    misses = evicting_misses(capacity, start, log)
    held = _held_at_events(start, log)
    return [(e, held[e]) for e in misses]


def _kind(log, end):
    """Return the kind of a gap with this end."""
    if end is None:
        return OPEN
    return HELD if log[end][0] == HIT else RELEASED


def _held_at_events(start, log):
    """Return held(e) for all events e."""
    change = [0] * len(log)
    for _, begin, end, kind in gaps(start, log):
        if kind == HELD:
            # The events at begin and at end do not lie inside the gap.
            change[begin + 1] += 1
            change[end] -= 1
    held = []
    running = 0
    for e in range(len(log)):
        running += change[e]
        held.append(running)
    return held
