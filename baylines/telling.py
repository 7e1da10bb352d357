"""Books told back from the rows that went into a bay and what came out of it."""

from baylines.books import all_books, closed
from baylines.errors import Unfit
from baylines.running import through


def looks(row, out):
    """Return (passing, staying), the pairs that each look at a bay tells; None if no bay makes out of row."""
    if len(row) != len(out):
        return None
    passing = {}
    staying = {}
    held = None
    for place, thing in enumerate(row):
        # Nothing goes on by the first thing, so what does stands one place ahead.
        given = out[place - 1] if place > 0 else None
        if given not in (thing, held):
            return None
        if given != held:
            passing[(thing, held)] = True
        else:
            if held not in (None, thing):
                staying[(thing, held)] = True
            held = thing
    if row != () and out[-1] != held:
        return None
    return (list(passing), list(staying))


def facts_of(n, seen):
    """Return what pairs (row, out) tell together; None if no one book of n makes each out of its row."""
    passing = []
    staying = []
    for row, out in seen:
        told = looks(row, out)
        if told is None:
            return None
        passing.extend(told[0])
        staying.extend(told[1])
    if not fit(n, passing, staying):
        return None
    return (tuple(sorted(set(passing))), tuple(sorted(set(staying))))


def facts(n, row, out):
    """Return the pair (passing, staying) that is told if a bay makes out of row; None if no book of n does."""
    return facts_of(n, ((row, out),))


def least_of(n, passing):
    """Return the least book of n that has all of passing, None if none has."""
    try:
        return closed(n, passing)
    except Unfit:
        return None


def fit(n, passing, staying):
    """Return whether some book of n has all of passing and none of staying."""
    # Each book that has passing has all that the least one has.
    least = least_of(n, passing)
    return least is not None and not any([pair in least for pair in staying])


def sure(n, passing, staying):
    """Return (always, nowhere): the pairs that each book that fits has, and the unlike ones that none has."""
    if not fit(n, passing, staying):
        raise Unfit()
    pairs = [(x, h) for x in range(n) for h in range(n) if x != h]
    nowhere = [pair for pair in pairs if not fit(n, passing + (pair,), staying)]
    return (closed(n, passing), tuple(nowhere))


def fitting(n, passing, staying):
    """Return all books of n that have all of passing and none of staying."""
    return [
        book for book in all_books(n)
        if all([pair in book for pair in passing]) and not any([pair in book for pair in staying])
    ]


def many_fit(n, passing, staying):
    """Return how many books of n have all of passing and none of staying."""
    return len(fitting(n, passing, staying))


def telling_row(n, passing, staying, many):
    """Return the first shortest row of at most many things of which the books that fit make the most unlike rows.

    None is returned if they make one row of each; Unfit() is raised if no book fits.
    """
    books = fitting(n, passing, staying)
    if not books:
        raise Unfit()
    best = None
    most = 1
    rows = [()]
    for _ in range(many):
        rows = [row + (kind,) for row in rows for kind in range(n)]
        for row in rows:
            unlike = len({through(book, row) for book in books})
            if unlike > most:
                best = row
                most = unlike
    return best
