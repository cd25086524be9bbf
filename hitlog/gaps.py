"""Gaps: the stretches of a log between the occurrences of a page."""

from hitlog.logs import HIT, check_log, check_shelf, evicting_misses

HELD = "held"
RELEASED = "released"
OPEN = "open"


def gaps(start, log):
    """Return all gaps: those from the start first, then the others by their begin."""
    check_shelf(start)
    check_log(log)
    occurrences = [(page, -1) for page in start]
    for index, (_, page) in enumerate(log):
        occurrences.append((page, index))
    # From the last occurrence to the first, the next one of each page is known.
    following = {}
    found = []
    for page, begin in reversed(occurrences):
        end = following.get(page)
        found.append((page, begin, end, _kind(log, end)))
        following[page] = begin
    return found[::-1]


def held_counts(capacity, start, log):
    """Return (e, held(e)) for all evicting misses e."""
    return count_held(evicting_misses(capacity, start, log), gaps(start, log))


def count_held(misses, all_gaps):
    """Return (e, held(e)) for these misses e, which are in ascending order, counting these gaps."""
    begins = sorted([begin for _, begin, _, kind in all_gaps if kind == HELD])
    ends = sorted([end for _, _, end, kind in all_gaps if kind == HELD])
    counts = []
    begun = ended = 0
    for e in misses:
        # A gap that begins or ends at e itself does not lie around e.
        while begun < len(begins) and begins[begun] < e:
            begun += 1
        while ended < len(ends) and ends[ended] <= e:
            ended += 1
        counts.append((e, begun - ended))
    return counts


def gaps_around(all_gaps, first, last):
    """Return those of these gaps that the moments from first to last lie in: one for a page at most."""
    return [gap for gap in all_gaps if gap[1] < first and (gap[2] is None or last <= gap[2])]


def _kind(log, end):
    """Return the kind of a gap with this end."""
    if end is None:
        return OPEN
    return HELD if log[end][0] == HIT else RELEASED
