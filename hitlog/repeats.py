"""Repeated logs: how often a log can be repeated without a break."""

from hitlog.errors import InvalidTimes
from hitlog.logs import check_arguments, is_count
from hitlog.possible import is_possible

# A log that is possible so many times is possible any number of times.
ENOUGH = 4


def most_repeats(capacity, start, log):
    """Return the greatest number of repetitions that are possible, or None if there is no greatest one."""
    for times in range(1, ENOUGH + 1):
        if not is_possible_repeated(capacity, start, log, times):
            return times - 1
    return None


def is_possible_repeated(capacity, start, log, times):
    """Return whether the log is possible if it is repeated so many times."""
    check_arguments(capacity, start, log)
    if not is_count(times):
        raise InvalidTimes("not an integer from 0 on")
    return is_possible(capacity, start, log * min(times, ENOUGH))
