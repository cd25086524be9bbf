"""Final contents: which pages can be on the shelf at the end of a log."""

from hitlog.errors import InvalidIndex, InvalidPages, NotFinal
from hitlog.gaps import HELD, OPEN, gaps, held_counts
from hitlog.logs import check_arguments, check_index, is_shelf, sizes
from hitlog.possible import check_possible

SIZE = "size"
UNKNOWN = "unknown"


def can_be_final(capacity, start, log, pages):
    """Return whether some history ends with exactly these pages on the shelf."""
    return why_not_final(capacity, start, log, pages) is None


def why_not_final(capacity, start, log, pages):
    """Return the first reason why no history ends with exactly these pages, or None."""
    check_arguments(capacity, start, log)
    if not is_shelf(pages):
        raise InvalidPages("not a tuple of distinct pages")
    check_possible(capacity, start, log)
    size = sizes(capacity, start, log)[-1]
    if len(pages) != size:
        return (SIZE, size)
    last = dict(_last_occurrences(start, log))
    for page in pages:
        if page not in last:
            return (UNKNOWN, page)
    return _first_crowded(capacity, held_counts(capacity, start, log), [last[page] for page in pages])


def count_finals(capacity, start, log):
    """Return the number of possible final contents."""
    check_possible(capacity, start, log)
    return _ways(capacity, start, log)[0][0]


def nth_final(capacity, start, log, index):
    """Return the possible final contents with this index, in the order of the last occurrences."""
    check_arguments(capacity, start, log)
    check_index(index)
    check_possible(capacity, start, log)
    ways = _ways(capacity, start, log)
    if index >= ways[0][0]:
        raise InvalidIndex("not less than the number of possible final contents")
    chosen = []
    for number, (page, _) in enumerate(_last_occurrences(start, log)):
        # All contents with this page come before all that are equal so far and leave it out.
        with_page = ways[number + 1][len(chosen) + 1]
        if index < with_page:
            chosen.append(page)
        else:
            index -= with_page
    return tuple(chosen)


def rank_final(capacity, start, log, pages):
    """Return the index of these final contents."""
    if not can_be_final(capacity, start, log, pages):
        raise NotFinal("these pages cannot be the final contents")
    ways = _ways(capacity, start, log)
    rank = 0
    chosen = 0
    for number, (page, _) in enumerate(_last_occurrences(start, log)):
        if page in pages:
            chosen += 1
        else:
            rank += ways[number + 1][chosen + 1]
    return rank


def _last_occurrences(start, log):
    """Return (page, index) for the last occurrence of each page, in their order."""
    return [(page, begin) for page, begin, _, kind in gaps(start, log) if kind == OPEN]


def _first_crowded(capacity, counts, begins):
    """Return the first evicting miss that cannot keep the pages that occur last at these begins, or None."""
    for e, held in counts:
        if held + _many_before(begins, e) >= capacity:
            return (HELD, e)
    return None


def _many_before(begins, e):
    """Return how many of these begins are before e."""
    return len([begin for begin in begins if begin < e])


def _most_chosen(capacity, counts, begins, size):
    """Return, for each number of the first pages, how many of them can stay until the end."""
    most = [size] * (len(begins) + 1)
    for e, held in counts:
        number = _many_before(begins, e)
        most[number] = min(most[number], capacity - 1 - held)
    return most


def _ways(capacity, start, log):
    """Return the numbers of ways to choose the final contents, by numbers of pages and of chosen pages.

    The entry at [number][chosen] says in how many ways the pages from this number on complete the final contents,
    if so many of the pages before it are chosen.
    """
    begins = [begin for _, begin in _last_occurrences(start, log)]
    size = sizes(capacity, start, log)[-1]
    most = _most_chosen(capacity, held_counts(capacity, start, log), begins, size)
    # The last column is for one page too many, which nothing completes.
    row = [0] * size + [1, 0]
    rows = [row]
    for number in reversed(range(len(begins))):
        row = [row[chosen] + row[chosen + 1] if chosen <= most[number] else 0 for chosen in range(size + 1)] + [0]
        rows.append(row)
    return rows[::-1]
