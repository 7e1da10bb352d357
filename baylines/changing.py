"""Which two bays may change places, and what parts the others."""

from itertools import product

from baylines.books import passed, passers
from baylines.running import whole


def alone(one, other):
    """Return the kinds that pass in one alone, ascending."""
    others = passers(other)
    return tuple([x for x in passers(one) if x not in others])


def unlike(one, other):
    """Return the least kind that passes in both books, not the same kinds; None if none does."""
    for x in passers(one):
        if passed(other, x) not in ((), passed(one, x)):
            return x
    return None


def in_common(one, x, other, y):
    """Return whether x and whom it passes in one, y and whom it passes in other, share a kind."""
    lot = (x,) + passed(one, x)
    return any([kind in lot for kind in (y,) + passed(other, y)])


def blocked(n, one, other):
    """Return None if bays with these books may change places, otherwise why not."""
    x = unlike(one, other)
    if x is not None:
        return ("unlike", x)
    for x in alone(one, other):
        for y in alone(other, one):
            if in_common(one, x, other, y):
                return ("common", x, y)
    return None


def parting(n, one, other):
    """Return the first shortest row of which both orders make unlike rows, None if there is none."""
    if blocked(n, one, other) is None:
        return None
    # Bays that are blocked are parted by two things or by three.
    for row in list(product(range(n), range(n))) + list(product(range(n), range(n), range(n))):
        if whole((one, other), row) != whole((other, one), row):
            return row
    return None
