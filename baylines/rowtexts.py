"""Rows as texts: a letter for each thing."""

from baylines.bounds import MAX_ROW
from baylines.errors import BadText

# The document tells eight letters; the others serve callers who go beyond
# MAX_KINDS, for whom nothing is to fail. A text of n takes the first n alone.
LETTERS = "abcdefghijklmnopqrstuvwxyz"


def row_text(row):
    """Return the text of row."""
    return "".join([LETTERS[kind] for kind in row])


def read_row(n, value):
    """Return the row of n of which value, any value, is the text."""
    if not isinstance(value, str):
        raise BadText(0)
    letters = LETTERS[:n]
    row = []
    for place, sign in enumerate(value):
        if place == MAX_ROW or sign not in letters:
            raise BadText(place)
        row.append(letters.find(sign))
    return tuple(row)
