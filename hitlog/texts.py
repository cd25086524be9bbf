"""Texts: logs and shelves written in one line."""

from hitlog.errors import InvalidText
from hitlog.logs import check_log, check_shelf, is_log, is_shelf

SIGNS = {"hit": "+", "miss": "-"}
MARKS = {"+": "hit", "-": "miss"}


def format_log(log):
    """Return the text of a log."""
    check_log(log)
    return " ".join([SIGNS[mark] + page for mark, page in log])


def format_shelf(shelf):
    """Return the text of a shelf."""
    check_shelf(shelf)
    return " ".join(shelf)


def parse_log(text):
    """Return the log that has this text."""
    events = [(MARKS.get(word[:1]), word[1:]) for word in _words(text)]
    if not is_log(events):
        raise InvalidText("not the text of a log")
    return events


def parse_shelf(text):
    """Return the shelf that has this text."""
    shelf = tuple(_words(text))
    if not is_shelf(shelf):
        raise InvalidText("not the text of a shelf")
    return shelf


def _words(text):
    """Return what stands between the blanks of a text, or nothing if the text is empty."""
    if not isinstance(text, str):
        raise InvalidText("not a string")
    # An empty text has no word, but two blanks have an empty one between them.
    return text.split(" ") if text else []
