"""Presence: which pages are on the shelf at a moment, in every history or in some."""

from hitlog.gaps import HELD, RELEASED, gaps, gaps_around
from hitlog.logs import check_arguments, check_moment, check_page, evicting_misses
from hitlog.possible import check_possible, fits

ALWAYS = "always"
NEVER = "never"
SOMETIMES = "sometimes"


def presence(capacity, start, log, page, moment):
    """Return whether the page is on the shelf at that moment always, never or sometimes."""
    check_arguments(capacity, start, log)
    check_page(page)
    misses, all_gaps, around = _gaps_at_moment(capacity, start, log, moment)
    for gap in around:
        if gap[0] == page:
            return _presence_of(capacity, misses, all_gaps, gap, moment)
    return NEVER


def certain_pages(capacity, start, log, moment):
    """Return the pages that are on the shelf at that moment in every history."""
    misses, all_gaps, around = _gaps_at_moment(capacity, start, log, moment)
    certain = [gap[0] for gap in around if not can_be_absent(capacity, misses, all_gaps, gap, moment)]
    return tuple(sorted(certain))


def possible_pages(capacity, start, log, moment):
    """Return the pages that are on the shelf at that moment in at least one history."""
    misses, all_gaps, around = _gaps_at_moment(capacity, start, log, moment)
    found = [gap[0] for gap in around if can_be_present(capacity, misses, all_gaps, gap, moment)]
    return tuple(sorted(found))


def can_be_present(capacity, misses, all_gaps, gap, moment):
    """Return whether some history has the page of this gap on the shelf at a moment of the gap."""
    page, begin, end, kind = gap
    # A page that is seen on the shelf is held until then; only the rest of its gap is as before.
    parts = [(page, begin, moment, HELD), (page, moment - 1, end, kind)]
    return fits(capacity, misses, replace_gap(all_gaps, gap, parts))


def can_be_absent(capacity, misses, all_gaps, gap, moment):
    """Return whether some history has the page of this gap evicted before a moment of the gap."""
    page, begin, _, kind = gap
    if kind == HELD:
        return False
    # A page that is seen to be gone has been released by then.
    return fits(capacity, misses, replace_gap(all_gaps, gap, [(page, begin, moment, RELEASED)]))


def replace_gap(all_gaps, gap, parts):
    """Return these gaps with others in place of one of them."""
    return [other for other in all_gaps if other != gap] + parts


def _gaps_at_moment(capacity, start, log, moment):
    """Return the evicting misses, all gaps and those around a moment, after all errors but that of the page."""
    check_arguments(capacity, start, log)
    check_moment(log, moment)
    check_possible(capacity, start, log)
    all_gaps = gaps(start, log)
    return evicting_misses(capacity, start, log), all_gaps, gaps_around(all_gaps, moment, moment)


def _presence_of(capacity, misses, all_gaps, gap, moment):
    """Return the presence of the page of this gap at a moment of the gap."""
    if not can_be_present(capacity, misses, all_gaps, gap, moment):
        return NEVER
    return SOMETIMES if can_be_absent(capacity, misses, all_gaps, gap, moment) else ALWAYS
