"""Observations: what else is known when pages were seen on the shelf, or were seen not to be there."""

from hitlog.errors import InvalidObservations
from hitlog.gaps import HELD, RELEASED, gaps
from hitlog.logs import check_arguments, evicting_misses, is_moment, is_page
from hitlog.possible import check_possible, evicted_pages, first_refused, fits, is_possible


def first_conflict(capacity, start, log, observations):
    """Return the index of the first observation with which no history agrees any more, or None."""
    _check_observations(capacity, start, log, observations)
    if agrees(capacity, start, log, observations):
        return None
    return first_refused(len(observations), lambda many: agrees(capacity, start, log, observations[:many]))


def observed_history(capacity, start, log, observations):
    """Return a history that agrees with all observations, or None."""
    _check_observations(capacity, start, log, observations)
    if not agrees(capacity, start, log, observations):
        return None
    return evicted_pages(evicting_misses(capacity, start, log), observed_gaps(start, log, observations))


def agrees(capacity, start, log, observations):
    """Return whether the log has a history that agrees with all observations."""
    if not is_possible(capacity, start, log):
        return False
    left = observed_gaps(start, log, observations)
    return left is not None and fits(capacity, evicting_misses(capacity, start, log), left)


def observed_gaps(start, log, observations):
    """Return what the observations make of the gaps, or None if a page was seen before it occurred.

    If the observations contradict each other or the log, then these gaps do not fit.
    """
    all_gaps = gaps(start, log)
    of_page = {}
    for gap in all_gaps:
        of_page.setdefault(gap[0], []).append(gap)
    last_seen = {}
    first_gone = {}
    for moment, page, present in observations:
        begin = _begin_of_gap(of_page.get(page, []), moment)
        key = (page, begin)
        if begin is None and present:
            return None
        if present:
            last_seen[key] = max(moment, last_seen.get(key, moment))
        else:
            first_gone[key] = min(moment, first_gone.get(key, moment))
    parts = []
    for gap in all_gaps:
        key = (gap[0], gap[1])
        parts.extend(_parts(gap, last_seen.get(key), first_gone.get(key)))
    return parts


def _check_observations(capacity, start, log, observations):
    """Raise the first error that applies to the four arguments or to the log."""
    check_arguments(capacity, start, log)
    if not isinstance(observations, list) or not all([_is_observation(log, value) for value in observations]):
        raise InvalidObservations("not a list of observations of the log")
    check_possible(capacity, start, log)


def _is_observation(log, value):
    """Return whether any value is an observation of the log."""
    if not isinstance(value, tuple) or len(value) != 3:
        return False
    moment, page, present = value
    return is_moment(log, moment) and is_page(page) and isinstance(present, bool)


def _begin_of_gap(of_page, moment):
    """Return the begin of the one of a page's gaps that the moment lies in, or None if it lies in none."""
    for _, begin, end, _ in of_page:
        if begin < moment and (end is None or moment <= end):
            return begin
    return None


def _parts(gap, seen, gone):
    """Return what is left of a gap whose page was last seen and first gone at these moments, or never (None)."""
    page, begin, end, kind = gap
    if seen is None and gone is None:
        return [gap]
    if kind == HELD:
        # The hit itself sees the page, and later than all others do.
        seen = end
    parts = []
    if seen is not None:
        parts.append((page, begin, seen, HELD))
        begin = seen - 1
    if gone is not None:
        # No miss lies in this part if the page was seen again after it was gone.
        parts.append((page, begin, gone, RELEASED))
    elif kind != HELD:
        parts.append((page, begin, end, kind))
    return parts
