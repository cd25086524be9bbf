"""Capacities and marks: for which capacities a log is possible, and what may follow it."""

from hitlog.logs import HIT, MISS, check_arguments, check_log, check_page, check_shelf
from hitlog.possible import check_possible, is_possible


def capacities(start, log):
    """Return the least and the greatest capacity for which the log is possible, or None."""
    check_shelf(start)
    check_log(log)
    # A shelf of this capacity never evicts a page, so all greater capacities allow the same.
    enough = max(1, len(start) + len([page for mark, page in log if mark == MISS]))
    right = [capacity for capacity in range(max(1, len(start)), enough + 1) if is_possible(capacity, start, log)]
    if not right:
        return None
    return (right[0], right[-1] if right[-1] < enough else None)


def next_marks(capacity, start, log, page):
    """Return the marks with which a request of the page can follow the log."""
    check_arguments(capacity, start, log)
    check_page(page)
    check_possible(capacity, start, log)
    return [mark for mark in (HIT, MISS) if is_possible(capacity, start, [*log, (mark, page)])]
