"""Evictions: which pages may be evicted when, and which must be."""

from hitlog.errors import InvalidIndex
from hitlog.gaps import HELD, RELEASED, gaps, gaps_around
from hitlog.logs import evicting_misses, is_integer
from hitlog.possible import check_possible, fits, history
from hitlog.presence import can_be_absent, can_be_present, replace_gap


def candidates(capacity, start, log, index):
    """Return the pages that are evicted at this evicting miss in at least one history."""
    misses = evicting_misses(capacity, start, log)
    if not is_integer(index) or index not in misses:
        raise InvalidIndex("not the index of an evicting miss")
    check_possible(capacity, start, log)
    all_gaps = gaps(start, log)
    around = gaps_around(all_gaps, index, index + 1)
    return sorted([gap[0] for gap in around if _can_be_evicted(capacity, misses, all_gaps, gap, index)])


def known_evictions(capacity, start, log):
    """Return (index, page) for all evicting misses at which every history evicts the same page."""
    check_possible(capacity, start, log)
    misses = evicting_misses(capacity, start, log)
    all_gaps = gaps(start, log)
    known = []
    # If all histories evict the same page, then this one does.
    for e, page in zip(misses, history(capacity, start, log)):
        evicted = [gap for gap in gaps_around(all_gaps, e, e + 1) if gap[0] == page]
        if _must_be_evicted(capacity, misses, all_gaps, evicted[0], e):
            known.append((e, page))
    return known


def eviction_range(capacity, start, log, index):
    """Return the first and the last miss that can evict the page of the released gap that ends here."""
    misses = evicting_misses(capacity, start, log)
    all_gaps = gaps(start, log)
    gap = _released_gap(all_gaps, index)
    check_possible(capacity, start, log)
    inside = [e for e in misses if gap[1] < e < gap[2]]
    right = [e for e in inside if _can_be_evicted(capacity, misses, all_gaps, gap, e)]
    return right[0], right[-1]


def _released_gap(all_gaps, index):
    """Return the released gap that ends at this index, which is any value."""
    if is_integer(index):
        for gap in all_gaps:
            if gap[2] == index and gap[3] == RELEASED:
                return gap
    raise InvalidIndex("not the end of a released gap")


def _can_be_evicted(capacity, misses, all_gaps, gap, e):
    """Return whether some history evicts the page of this gap at a miss of the gap."""
    page, begin, _, kind = gap
    if kind == HELD:
        return False
    # The page is held until the miss, and can be released by nothing but the miss.
    parts = [(page, begin, e, HELD), (page, e - 1, e + 1, RELEASED)]
    return fits(capacity, misses, replace_gap(all_gaps, gap, parts))


def _must_be_evicted(capacity, misses, all_gaps, gap, e):
    """Return whether every history evicts the page of this gap at a miss of the gap."""
    if can_be_absent(capacity, misses, all_gaps, gap, e):
        return False
    return not can_be_present(capacity, misses, all_gaps, gap, e + 1)
