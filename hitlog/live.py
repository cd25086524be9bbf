"""A live shelf: a log and observations that grow, and what they tell so far."""

from hitlog.errors import InvalidMark, InvalidPresence, NothingToUndo, NotPossible
from hitlog.gaps import OPEN
from hitlog.logs import HIT, MISS, check_capacity, check_page, check_start, evicting_misses, is_mark
from hitlog.observations import agrees, observed_gaps
from hitlog.presence import can_be_absent, can_be_present

REQUEST = "request"
OBSERVE = "observe"


class LiveShelf:
    """A shelf whose log and observations are always those of some history."""

    def __init__(self, capacity, start=()):
        check_capacity(capacity)
        check_start(capacity, start)
        self._capacity = capacity
        self._start = start
        self._log = []
        self._observations = []
        self._actions = []

    def request(self, page, mark):
        """Append an event."""
        check_page(page)
        if not is_mark(mark):
            raise InvalidMark("neither hit nor miss")
        if not self._accepts(page, mark):
            raise NotPossible("no history agrees with the longer log")
        self._log.append((mark, page))
        self._actions.append(REQUEST)

    def observe(self, page, present):
        """Record whether the page is seen on the shelf now."""
        check_page(page)
        if not isinstance(present, bool):
            raise InvalidPresence("not a bool")
        observations = [*self._observations, (len(self._log), page, present)]
        if not agrees(self._capacity, self._start, self._log, observations):
            raise NotPossible("no history agrees with this observation")
        self._observations = observations
        self._actions.append(OBSERVE)

    def undo(self):
        """Remove the latest action and return its name."""
        if not self._actions:
            raise NothingToUndo("there is no action")
        action = self._actions.pop()
        if action == REQUEST:
            self._log.pop()
        else:
            self._observations.pop()
        return action

    def events(self):
        """Return the log."""
        return list(self._log)

    def marks(self, page):
        """Return the marks with which a request of the page would be accepted now."""
        check_page(page)
        return [mark for mark in (HIT, MISS) if self._accepts(page, mark)]

    def certain(self):
        """Return the pages that are on the shelf now in every history that agrees."""
        misses, all_gaps = self._misses_and_gaps()
        now = len(self._log)
        last_gaps = [gap for gap in all_gaps if gap[3] == OPEN]
        found = [gap[0] for gap in last_gaps if not can_be_absent(self._capacity, misses, all_gaps, gap, now)]
        return tuple(sorted(found))

    def possible(self):
        """Return the pages that are on the shelf now in at least one history that agrees."""
        misses, all_gaps = self._misses_and_gaps()
        now = len(self._log)
        last_gaps = [gap for gap in all_gaps if gap[3] == OPEN]
        found = [gap[0] for gap in last_gaps if can_be_present(self._capacity, misses, all_gaps, gap, now)]
        return tuple(sorted(found))

    def __len__(self):
        return len(self._actions)

    def _accepts(self, page, mark):
        """Return whether some history agrees with the log that is longer by this event."""
        return agrees(self._capacity, self._start, [*self._log, (mark, page)], self._observations)

    def _misses_and_gaps(self):
        """Return the evicting misses and what the observations leave of the gaps.

        A page that is not in an open gap now was seen to be gone, so only those in one can be on the shelf.
        """
        all_gaps = observed_gaps(self._start, self._log, self._observations)
        return evicting_misses(self._capacity, self._start, self._log), all_gaps
