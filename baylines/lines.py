"""Lines of bays, and what their bays hold."""

from baylines.books import book_error
from baylines.bounds import MAX_BAYS
from baylines.rows import is_kind


def line_error(n, value):
    """Return None if value is a line of n, otherwise what is wrong with it."""
    if not isinstance(value, tuple) or len(value) > MAX_BAYS:
        return "form"
    for place, item in enumerate(value):
        error = book_error(n, item)
        if error is not None:
            return ("bay", place, error)
    return None


def standing_error(n, line, value):
    """Return None if value is a standing of line, otherwise what is wrong with it."""
    if not isinstance(value, tuple) or len(value) != len(line):
        return "form"
    for place, item in enumerate(value):
        if item is not None and not is_kind(n, item):
            return ("held", place)
    # The first kind behind any None stands just behind one.
    for place in range(1, len(value)):
        if value[place] is not None and value[place - 1] is None:
            return ("gap", place)
    return None


def empty(line):
    """Return the standing of line in which no bay holds anything."""
    return (None,) * len(line)


def none_first(held):
    """Return what a tuple of kinds and Nones is sorted by: None stands ahead of all kinds."""
    return tuple([-1 if kind is None else kind for kind in held])
