"""Kinds, and rows of things: what they are, and how their things stand."""

from baylines.bounds import MAX_ROW, MAX_ROWS
from baylines.counting import is_within
from baylines.errors import TooMany


def is_kind(n, value):
    """Return whether value, any value, is a kind of n."""
    return is_within(0, n - 1, value)


def row_error(n, value):
    """Return None if value is a row of n, otherwise what is wrong with it."""
    if not isinstance(value, tuple) or len(value) > MAX_ROW:
        return "form"
    for place, item in enumerate(value):
        if not is_kind(n, item):
            return ("thing", place)
    return None


def same_things(one, other):
    """Return whether each kind stands in both rows as often."""
    return sorted(one) == sorted(other)


def ahead(row, place):
    """Return how many things of greater kinds stand ahead of the one at place."""
    return len([kind for kind in row[:place] if kind > row[place]])


def is_rising(row):
    """Return whether no thing of row has one of a lesser kind behind it."""
    return sorted(row) == list(row)


def rows_of(n, many):
    """Return all rows of n with many things, ascending."""
    rows = [()]
    for _ in range(many):
        # Longer rows are never fewer, so the bound may be judged early.
        if len(rows) * n > MAX_ROWS:
            raise TooMany(MAX_ROWS)
        rows = [row + (kind,) for row in rows for kind in range(n)]
    return tuple(rows)
