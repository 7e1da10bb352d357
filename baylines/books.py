"""Books: which kinds pass which."""

from baylines.errors import Unfit
from baylines.rows import is_kind


def is_pair(n, value):
    """Return whether value, any value, is a pair of kinds of n."""
    return isinstance(value, tuple) and len(value) == 2 and is_kind(n, value[0]) and is_kind(n, value[1])


def order_error(pairs):
    """Return what is wrong with pairs of kinds as an order, None if nothing is."""
    for place in range(1, len(pairs)):
        if pairs[place] <= pairs[place - 1]:
            return ("order", place)
    for x, h in pairs:
        if x == h:
            return ("self", x)
    # The pairs ascend here, so the first triple that is met is the least one.
    for x, y in pairs:
        for z in passed(pairs, y):
            if not passes(pairs, x, z):
                return ("whom", x, y, z)
    return None


def book_error(n, value):
    """Return None if value is a book of n, otherwise what is wrong with it."""
    if not isinstance(value, tuple):
        return "form"
    for place, item in enumerate(value):
        if not is_pair(n, item):
            return ("pair", place)
    return order_error(value)


def passes(book, x, h):
    """Return whether x passes h."""
    return (x, h) in book


def passed(book, x):
    """Return all kinds that x passes, ascending."""
    return tuple([pair[1] for pair in book if pair[0] == x])


def passers(book):
    """Return all kinds that pass some kind, ascending."""
    return tuple(sorted({pair[0] for pair in book}))


def ranked(levels):
    """Return the book in which each kind passes those with a greater level."""
    kinds = range(len(levels))
    return tuple([(x, h) for x in kinds for h in kinds if levels[x] < levels[h]])


def closed(n, pairs):
    """Return the least book of n that has all of pairs; Unfit() if none has."""
    found = set(pairs)
    # With y outermost, once is enough: behind each y all ways that lead
    # through the kinds up to y alone are there as pairs.
    for y in range(n):
        for x in range(n):
            for z in range(n):
                if (x, y) in found and (y, z) in found:
                    found.add((x, z))
    for x in range(n):
        if (x, x) in found:
            raise Unfit()
    return tuple(sorted(found))


def only(book, chosen):
    """Return the book with those pairs of book whose passers are chosen."""
    return tuple([pair for pair in book if pair[0] in chosen])


def common(one, other):
    """Return the book with the pairs that both books have."""
    return tuple([pair for pair in one if pair in other])


def renamed(book, names):
    """Return the book in which names[x] passes names[h] where x passes h in book."""
    return tuple(sorted([(names[x], names[h]) for x, h in book]))


def all_books(n):
    """Return all books of n, ascending."""
    pairs = [(x, h) for x in range(n) for h in range(n) if x != h]
    found = {(): True}
    waiting = [()]
    # Each book but () has a pair with no kind between its two; without this
    # pair it is a book, too, so closing books with one pair more meets all. A
    # pair that no pair turns about makes no ring, so closed never raises here.
    while waiting:
        book = waiting.pop()
        for x, h in pairs:
            if not passes(book, h, x):
                more = closed(n, book + ((x, h),))
                if more not in found:
                    found[more] = True
                    waiting.append(more)
    return tuple(sorted(found))
