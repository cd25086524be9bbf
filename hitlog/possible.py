"""Possible logs: whether a log has a history, and what forbids one if it has none."""

from heapq import heappop, heappush

from hitlog.errors import NotPossible
from hitlog.gaps import HELD, OPEN, RELEASED, count_held, gaps
from hitlog.logs import HIT, evicting_misses, is_integer

FIRST = "first"


def is_possible(capacity, start, log):
    """Return whether the log has a history."""
    misses = evicting_misses(capacity, start, log)
    return not _unknown_hits(start, log) and fits(capacity, misses, gaps(start, log))


def why_not(capacity, start, log):
    """Return the first violation of the conditions First, Held and Released, or None."""
    misses = evicting_misses(capacity, start, log)
    unknown = _unknown_hits(start, log)
    if unknown:
        return (FIRST, unknown[0])
    all_gaps = gaps(start, log)
    crowded = _crowded_misses(capacity, misses, all_gaps)
    if crowded:
        return (HELD, crowded[0])
    late = _first_late(misses, all_gaps)
    if late is None:
        return None
    return (RELEASED, _greatest_begin(misses, all_gaps, late), late)


def is_reason(capacity, start, log, value):
    """Return whether any value names a violation of one of the conditions."""
    misses = evicting_misses(capacity, start, log)
    if not _looks_like_reason(value):
        return False
    name, *numbers = value
    if name == FIRST:
        return numbers[0] in _unknown_hits(start, log)
    all_gaps = gaps(start, log)
    if name == HELD:
        return numbers[0] in _crowded_misses(capacity, misses, all_gaps)
    a, b = numbers
    return -1 <= a < b and _is_short(misses, all_gaps, a, b)


def history(capacity, start, log):
    """Return the history that lets the released gap with the smallest end go first, or None."""
    if not is_possible(capacity, start, log):
        return None
    return evicted_pages(evicting_misses(capacity, start, log), gaps(start, log))


def first_impossible(capacity, start, log):
    """Return the smallest index with which the log is no longer possible, or None."""
    if is_possible(capacity, start, log):
        return None
    # No event makes an impossible log possible again.
    return first_refused(len(log), lambda many: is_possible(capacity, start, log[:many]))


def check_possible(capacity, start, log):
    """Raise NotPossible if the log is not possible, after the errors of the arguments."""
    if not is_possible(capacity, start, log):
        raise NotPossible("the log is not possible")


def fits(capacity, misses, all_gaps):
    """Return whether evictions at these misses can keep and release the pages as these gaps say.

    These are the conditions Held and Released, for the gaps of a log or for others in their place.
    """
    return not _crowded_misses(capacity, misses, all_gaps) and _first_late(misses, all_gaps) is None


def evicted_pages(misses, all_gaps):
    """Return the pages that go at these misses if the released gap with the smallest end goes first.

    The gaps are those of a log or others in their place; they fit.
    """
    evicted = {}
    for gap, e in zip(all_gaps, _smallest_end_first(misses, all_gaps)):
        if e is not None:
            evicted[e] = gap[0]
    # A miss that releases nothing finds the open gap with the smallest begin on the shelf.
    never_again = sorted([gap for gap in all_gaps if gap[3] == OPEN], key=lambda gap: gap[1])
    gone = 0
    for e in misses:
        if e not in evicted:
            evicted[e] = never_again[gone][0]
            gone += 1
    return [evicted[miss] for miss in misses]


def first_refused(length, accepts):
    """Return the index of the first of so many entries with which they are no longer accepted.

    accepts tells whether so many of the first entries are accepted; all of them are not, and no entry makes up for
    an earlier one.
    """
    low = 0
    high = length - 1
    # Each trial halves what is left.
    while low < high:
        middle = (low + high) // 2
        if accepts(middle + 1):
            low = middle + 1
        else:
            high = middle
    return low


def _unknown_hits(start, log):
    """Return the indices of the hits of pages that have no earlier occurrence."""
    known = set(start)
    unknown = []
    for index, (mark, page) in enumerate(log):
        if mark == HIT and page not in known:
            unknown.append(index)
        known.add(page)
    return unknown


def _crowded_misses(capacity, misses, all_gaps):
    """Return the misses at which held gaps leave no page that can be evicted."""
    return [e for e, held in count_held(misses, all_gaps) if held >= capacity]


def _smallest_end_first(misses, all_gaps):
    """Return, for each gap, the miss that evicts its page if the released gap that ends first goes first.

    It is None for a page that stays. A page may go too late: not before the end of its gap.
    """
    waiting = sorted(
        [(gap[1], index) for index, gap in enumerate(all_gaps) if gap[3] == RELEASED],
        reverse=True,
    )
    evicted_at = [None] * len(all_gaps)
    begun = []
    for e in misses:
        while waiting and waiting[-1][0] < e:
            _, place = waiting.pop()
            heappush(begun, (all_gaps[place][2], place))
        if begun:
            _, place = heappop(begun)
            evicted_at[place] = e
    return evicted_at


def _first_late(misses, all_gaps):
    """Return the smallest end of a released gap at which its page is still on the shelf, or None.

    If any evictions are in time, then those that let the gap with the smallest end go first are.
    """
    ends = []
    for (_, _, end, kind), e in zip(all_gaps, _smallest_end_first(misses, all_gaps)):
        if kind == RELEASED and (e is None or e >= end):
            ends.append(end)
    return min(ends, default=None)


def _greatest_begin(misses, all_gaps, b):
    """Return the greatest a for which a and b violate Released; there is one."""
    return max([a for a in range(-1, b) if _is_short(misses, all_gaps, a, b)])


def _is_short(misses, all_gaps, a, b):
    """Return whether more released gaps lie from a to b than evicting misses between a and b."""
    inside = [kind for _, begin, end, kind in all_gaps if kind == RELEASED and a <= begin and end <= b]
    return len(inside) > len([e for e in misses if a < e < b])


def _looks_like_reason(value):
    """Return whether any value has the form of a reason, whatever its numbers are."""
    if not isinstance(value, tuple) or len(value) not in (2, 3) or not isinstance(value[0], str):
        return False
    names = (FIRST, HELD) if len(value) == 2 else (RELEASED,)
    return value[0] in names and all([is_integer(number) for number in value[1:]])
