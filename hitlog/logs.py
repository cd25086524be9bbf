"""Shelves, logs and histories: what they are and how a shelf follows a log."""

from hitlog.errors import (
    InvalidCapacity,
    InvalidHistory,
    InvalidIndex,
    InvalidLog,
    InvalidMoment,
    InvalidPage,
    InvalidShelf,
)

HIT = "hit"
MISS = "miss"
LETTERS = "abcdefghijklmnopqrstuvwxyz"
LONGEST_PAGE = 4


def is_integer(value):
    """Return whether any value is an integer; True and False are none."""
    return isinstance(value, int) and not isinstance(value, bool)


def is_count(value):
    """Return whether any value is an integer from 0 on."""
    return is_integer(value) and value >= 0


def is_page(value):
    """Return whether any value is a page."""
    if not isinstance(value, str) or not 1 <= len(value) <= LONGEST_PAGE:
        return False
    return all([letter in LETTERS for letter in value])


def is_mark(value):
    """Return whether any value is a mark."""
    # Only a string is compared with the marks: a comparison of bytes with a string may warn.
    return isinstance(value, str) and value in (HIT, MISS)


def is_event(value):
    """Return whether any value is an event."""
    if not isinstance(value, tuple) or len(value) != 2:
        return False
    mark, page = value
    return is_mark(mark) and is_page(page)


def is_page_list(value):
    """Return whether any value is a list of pages."""
    return isinstance(value, list) and all([is_page(page) for page in value])


def is_shelf(value):
    """Return whether any value is a shelf."""
    if not isinstance(value, tuple) or not all([is_page(page) for page in value]):
        return False
    return len(set(value)) == len(value)


def is_log(value):
    """Return whether any value is a log, possible or not."""
    return isinstance(value, list) and all([is_event(event) for event in value])


def check_capacity(capacity):
    """Raise InvalidCapacity if this is not a capacity."""
    if not is_integer(capacity) or capacity < 1:
        raise InvalidCapacity("the capacity is not an integer from 1 on")


def check_shelf(start):
    """Raise InvalidShelf if this is not a shelf, whatever the capacity."""
    if not is_shelf(start):
        raise InvalidShelf("not a shelf: a tuple of distinct pages")


def check_start(capacity, start):
    """Raise InvalidShelf if a shelf of this capacity cannot begin so."""
    check_shelf(start)
    if len(start) > capacity:
        raise InvalidShelf("the shelf has more pages than the capacity")


def check_log(log):
    """Raise InvalidLog if this is not a log."""
    if not is_log(log):
        raise InvalidLog("not a log: a list of events")


def check_arguments(capacity, start, log):
    """Raise the first error that applies to the three arguments."""
    check_capacity(capacity)
    check_start(capacity, start)
    check_log(log)


def check_page(page):
    """Raise InvalidPage if this is not a page."""
    if not is_page(page):
        raise InvalidPage("not a page: a string of one to four letters from a to z")


def is_moment(log, value):
    """Return whether any value is a moment of the log."""
    return is_count(value) and value <= len(log)


def check_moment(log, moment):
    """Raise InvalidMoment if the log does not have this moment."""
    if not is_moment(log, moment):
        raise InvalidMoment("not a moment: an integer from 0 to the number of events")


def check_index(index):
    """Raise InvalidIndex if nothing can have this index, however much there is."""
    if not is_count(index):
        raise InvalidIndex("not an index: an integer from 0 on")


def sizes(capacity, start, log):
    """Return size(t) for all moments t."""
    check_arguments(capacity, start, log)
    # Without an eviction, each miss would add one page.
    pages = len(start)
    found = [pages]
    for mark, _ in log:
        if mark == MISS:
            pages += 1
        found.append(min(capacity, pages))
    return found


def evicting_misses(capacity, start, log):
    """Return the indices of the misses that find a full shelf."""
    before = sizes(capacity, start, log)
    return [e for e in range(len(log)) if log[e][0] == MISS and before[e] == capacity]


def replay(capacity, start, log, evicted):
    """Return the contents of the shelf at all moments of this history."""
    misses = evicting_misses(capacity, start, log)
    if not is_page_list(evicted) or len(evicted) != len(misses):
        raise InvalidHistory("not a list with one page for each evicting miss")
    evicted_at = dict(zip(misses, evicted))
    shelf = tuple(sorted(start))
    contents = [shelf]
    for e in range(len(log)):
        mark, page = log[e]
        if not _allows(shelf, mark, page, evicted_at.get(e)):
            raise InvalidHistory("an event or an eviction does not agree with the shelf")
        if mark == MISS:
            shelf = _after_miss(shelf, page, evicted_at.get(e))
        contents.append(shelf)
    return contents


def _allows(shelf, mark, page, evicted):
    """Return whether this event can happen now and evict this page, or none if it is None."""
    if (page in shelf) != (mark == HIT):
        return False
    return evicted is None or evicted in shelf


def _after_miss(shelf, page, evicted):
    """Return the contents, in alphabetical order, after a miss that evicts this page or none."""
    kept = [other for other in shelf if other != evicted]
    return tuple(sorted([*kept, page]))
