"""Rules of eviction: what a shelf does that chooses the evicted page by a rule."""

from hitlog.errors import InvalidRequests, InvalidRule
from hitlog.logs import HIT, MISS, check_capacity, check_log, check_start, is_page_list

LRU = "LRU"
FIFO = "FIFO"
OPT = "OPT"


def rule_log(rule, capacity, start, requests):
    """Return the log of these requests."""
    _check_rule_and_shelf(rule, capacity, start)
    _check_requests(requests)
    log, _ = _play(rule, capacity, start, requests)
    return log


def rule_evictions(rule, capacity, start, requests):
    """Return the pages that these requests evict."""
    _check_rule_and_shelf(rule, capacity, start)
    _check_requests(requests)
    _, evicted = _play(rule, capacity, start, requests)
    return evicted


def first_difference(rule, capacity, start, log):
    """Return the index of the first event whose mark is not that of the rule, or None."""
    _check_rule_and_shelf(rule, capacity, start)
    check_log(log)
    played, _ = _play(rule, capacity, start, [page for _, page in log])
    for index in range(len(log)):
        if log[index] != played[index]:
            return index
    return None


def _check_rule_and_shelf(rule, capacity, start):
    """Raise the first error that applies to the first three arguments."""
    if not isinstance(rule, str) or rule not in (LRU, FIFO, OPT):
        raise InvalidRule("not a rule: LRU, FIFO or OPT")
    check_capacity(capacity)
    check_start(capacity, start)


def _check_requests(requests):
    """Raise InvalidRequests if this is not a list of pages."""
    if not is_page_list(requests):
        raise InvalidRequests("not a list of pages")


def _play(rule, capacity, start, requests):
    """Return the log and the evicted pages."""
    # The page that FIFO, or LRU and the last choice of OPT, would evict comes first.
    shelf = list(start)
    log = []
    evicted = []
    for index, page in enumerate(requests):
        if page in shelf:
            log.append((HIT, page))
            if rule != FIFO:
                shelf.remove(page)
                shelf.append(page)
            continue
        log.append((MISS, page))
        if len(shelf) == capacity:
            victim = _victim(rule, shelf, requests[index + 1:])
            evicted.append(victim)
            shelf.remove(victim)
        shelf.append(page)
    return log, evicted


def _victim(rule, shelf, later):
    """Return the page that the rule evicts from a full shelf, of which the later requests are known."""
    if rule != OPT:
        return shelf[0]
    for page in shelf:
        if page not in later:
            return page
    return max(shelf, key=lambda other: later.index(other))
