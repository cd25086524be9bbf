"""Counting histories: how many a log has, and which of them has which index."""

from hitlog.errors import InvalidIndex, TooLarge
from hitlog.gaps import OPEN, RELEASED, gaps, held_counts
from hitlog.logs import check_arguments, check_index, evicting_misses, replay
from hitlog.possible import is_possible

LIMIT = 16


def count_histories(capacity, start, log):
    """Return the number of histories."""
    _check_size(capacity, start, log)
    if not is_possible(capacity, start, log):
        return 0
    return Walk(capacity, start, log).many()


def nth_history(capacity, start, log, index):
    """Return the history with this index, in the order of lists of strings."""
    check_arguments(capacity, start, log)
    check_index(index)
    if index >= count_histories(capacity, start, log):
        raise InvalidIndex("not less than the number of histories")
    walk = Walk(capacity, start, log)
    evicted = []
    for _ in evicting_misses(capacity, start, log):
        for page, many in walk.options():
            if index < many:
                evicted.append(page)
                break
            index -= many
        walk.evict(evicted[-1])
    return evicted


def rank_history(capacity, start, log, evicted):
    """Return the index of this history."""
    _check_size(capacity, start, log)
    # If this is no history, then replay raises the error.
    replay(capacity, start, log, evicted)
    walk = Walk(capacity, start, log)
    rank = 0
    for chosen in evicted:
        rank += sum([many for page, many in walk.options() if page < chosen])
        walk.evict(chosen)
    return rank


class Walk:
    """A way through the histories of a possible log, from one evicting miss to the next.

    Only two kinds of pages can go at a miss: those that must go before their next request, of which the ends of
    their gaps are kept (waiting), and those that are never requested again (resting). All resting pages leave the
    same choices to later misses, so the numbers of ways depend on the waiting ones alone.
    """

    def __init__(self, capacity, start, log):
        self._log = log
        self._steps = _steps(capacity, start, log)
        self._known = {}
        self._place = 0
        self._waiting = ()
        self._resting = []

    def many(self):
        """Return the number of ways to go on to the end of the log."""
        return self._ways(self._place, self._waiting)

    def options(self):
        """Return (page, number of ways to go on) for all pages that are not held, by their names."""
        _, _, ends, pages = self._steps[self._place]
        waiting = _joined(self._waiting, ends)
        after = self._place + 1
        must_go = [(self._page_at(end), self._ways(after, _without(waiting, end))) for end in waiting]
        return sorted(must_go + [(page, self._ways(after, waiting)) for page in self._resting + pages])

    def evict(self, gone):
        """Go on to the next evicting miss after this page has gone."""
        _, _, ends, pages = self._steps[self._place]
        self._waiting = tuple([end for end in _joined(self._waiting, ends) if self._page_at(end) != gone])
        self._resting = [page for page in self._resting + pages if page != gone]
        self._place += 1

    def _page_at(self, end):
        """Return the page that is requested at this end of a gap."""
        return self._log[end][1]

    def _ways(self, place, waiting):
        """Return the number of ways to go on from this evicting miss, if these pages still wait before it."""
        if place == len(self._steps):
            return 1
        key = (place, waiting)
        if key not in self._known:
            self._known[key] = self._ways_at_miss(place, waiting)
        return self._known[key]

    def _ways_at_miss(self, place, before):
        """Return the same number, worked out from those of the next evicting miss."""
        e, free, ends, _ = self._steps[place]
        waiting = _joined(before, ends)
        # A page whose end has come is still on the shelf, though it must not be.
        if waiting and waiting[0] <= e:
            return 0
        resting = free - len(waiting)
        ways = resting * self._ways(place + 1, waiting) if resting > 0 else 0
        return ways + sum([self._ways(place + 1, _without(waiting, end)) for end in waiting])


def _check_size(capacity, start, log):
    """Raise TooLarge if there are too many evicting misses, after the errors of the arguments."""
    if len(evicting_misses(capacity, start, log)) > LIMIT:
        raise TooLarge(LIMIT)


def _steps(capacity, start, log):
    """Return (e, free, ends, pages) for each evicting miss e.

    free is the number of pages on the shelf that are not held. ends and pages tell of the gaps that begin since the
    evicting miss before it: the ends of the released ones and the pages of the open ones.
    """
    steps = []
    first = -1
    all_gaps = gaps(start, log)
    for e, held in held_counts(capacity, start, log):
        begun = [gap for gap in all_gaps if first <= gap[1] < e]
        ends = [end for _, _, end, kind in begun if kind == RELEASED]
        pages = [page for page, _, _, kind in begun if kind == OPEN]
        steps.append((e, capacity - held, ends, pages))
        first = e
    return steps


def _joined(waiting, ends):
    """Return the ends that wait when these are added."""
    return tuple(sorted([*waiting, *ends]))


def _without(waiting, end):
    """Return the ends that wait when this one does no longer."""
    return tuple([other for other in waiting if other != end])
