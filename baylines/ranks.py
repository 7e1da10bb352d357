"""Into rank: how few bays bring rows into rising order, and which lines do."""

from baylines.bounds import MAX_STANDINGS
from baylines.designs import design
from baylines.errors import TooMany
from baylines.lines import empty
from baylines.rows import ahead, is_rising
from baylines.running import ending, step


def full(n):
    """Return the book in which each lesser kind passes each greater one."""
    return tuple([(x, h) for x in range(n) for h in range(x + 1, n)])


def fewest_full(row):
    """Return behind how many full bays, at the least, row has come into rising order."""
    # A full bay lets each thing that is not in order pass just one greater one.
    return max([ahead(row, place) for place in range(len(row))], default=0)


def rises_behind(line, standing, last):
    """Return whether the end makes a rising row behind last, which came out last (or None)."""
    came_out = () if last is None else (last,)
    return is_rising(came_out + ending(line, standing))


def sorts_longer(n, line, rows):
    """Return (None, rows of one thing more), or (row that does not rise, None).

    rows is a dict: for each pair (standing, last) the first row that leads
    there, these rows ascending. So the first row that is met is the first one.
    """
    behind = {}
    for standing, last in rows:
        for kind in range(n):
            row = rows[(standing, last)] + (kind,)
            then, out = step(line, standing, kind)
            # Where something came out before, something does by each thing.
            if last is not None and out < last:
                return (row, None)
            pair = (then, last if out is None else out)
            if pair not in behind:
                if not rises_behind(line, then, pair[1]):
                    return (row, None)
                behind[pair] = row
    return (None, behind)


def sorts_error(n, line, many):
    """Return the first shortest row of at most many things that line does not bring to rise, or None."""
    rows = {(empty(line), None): ()}
    for _ in range(many):
        row, rows = sorts_longer(n, line, rows)
        if row is not None:
            return row
        if len(rows) > MAX_STANDINGS:
            raise TooMany(MAX_STANDINGS)
    return None


def lifted(n, line):
    """Return of how many things, at the most, line brings all rows to rise; None if of any number."""
    # Of two kinds or more some row with two things more than bays does not
    # rise, so to look at longer ones is of no use.
    row = sorts_error(n, line, len(line) + 2)
    return None if row is None else len(row) - 1


def first_to_rise(n, shelf, row, most):
    """Return the first shortest design by which row comes to rise, None if there is none."""
    return design(n, shelf, ((row, tuple(sorted(row))),), most)
