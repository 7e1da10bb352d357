"""Moments: what a desk is at one time, and what it is behind an edit.

A moment is never changed: each edit makes another one of it, so that what
was stays there to be gone back to.
"""

from baylines.books import book_error
from baylines.bounds import MAX_BAYS
from baylines.changes import live, may_change
from baylines.changing import blocked
from baylines.counting import is_within
from baylines.errors import BadBook, Blocked, TooMany, Unfit
from baylines.lines import empty, none_first
from baylines.rows import is_kind
from baylines.running import ending, step


def split_off(inside, kinds):
    """Return (the first pairs (ticket, kind) of inside with these kinds, one behind another; those left)."""
    left = list(inside)
    found = []
    for kind in kinds:
        found.append(left.pop([pair[1] for pair in left].index(kind)))
    return (tuple(found), tuple(left))


def shown_pairs(standing, inside):
    """Return for each bay the pair (ticket, kind) of what it holds, or None."""
    # Of things of one kind the one nearest to the end came first.
    found, _ = split_off(inside, [kind for kind in reversed(standing) if kind is not None])
    return found[::-1] + (None,) * (len(standing) - len(found))


class Moment:
    """A line with its ways, the pairs (ticket, kind) held, as they came, and of what came out, in order."""

    def __init__(self, bays, stands, inside, gone):
        self.bays = bays
        self.stands = stands
        self.inside = inside
        self.gone = gone
        self.shown = shown_pairs(stands[0], inside)


def first_moment():
    """Return the moment at which there is no bay and nothing has come."""
    return Moment((), ((),), (), ())


def given_out(moment, bays, stands, inside, kinds):
    """Return the moment at which things of these kinds have come out of inside, ahead of all others."""
    found, left = split_off(inside, kinds)
    return Moment(bays, stands, left, moment.gone + found)


def put_in(n, moment, place, book):
    """Return the moment at which a bay with book has been put in at place; both may be any values."""
    bays, standing = moment.bays, moment.stands[0]
    if not is_within(0, len(bays), place):
        raise Unfit()
    error = book_error(n, book)
    if error is not None:
        raise BadBook(error)
    if len(bays) >= MAX_BAYS:
        raise TooMany(MAX_BAYS)
    if place < len(bays) and standing[place] is not None:
        raise Unfit()
    stands = (standing[:place] + (None,) + standing[place:],)
    return Moment(bays[:place] + (book,) + bays[place:], stands, moment.inside, moment.gone)


def taken_out(moment, place):
    """Return the moment at which the bay at place, any value, has gone, and what it held has come to those behind."""
    bays, standing = moment.bays, moment.stands[0]
    if not is_within(0, len(bays) - 1, place):
        raise Unfit()
    behind = standing[place + 1:]
    out = None
    if standing[place] is not None:
        behind, out = step(bays[place + 1:], behind, standing[place])
    kinds = () if out is None else (out,)
    return given_out(moment, bays[:place] + bays[place + 1:], (standing[:place] + behind,), moment.inside, kinds)


def come_in(n, moment, kind):
    """Return the moment at which a thing of this kind, any value, has come."""
    if not is_kind(n, kind):
        raise Unfit()
    steps = [step(moment.bays, way, kind) for way in moment.stands]
    stands = tuple(sorted({behind: True for behind, _ in steps}, key=none_first))
    ticket = len(moment.inside) + len(moment.gone)
    # All ways go on alike, so the first one tells what comes out.
    out = steps[0][1]
    kinds = () if out is None else (out,)
    return given_out(moment, moment.bays, stands, moment.inside + ((ticket, kind),), kinds)


def exchanged(n, moment, place):
    """Return the moment at which the bays at place, any value, and behind it have exchanged their places."""
    if not is_within(0, len(moment.bays) - 2, place):
        raise Unfit()
    why = blocked(n, moment.bays[place], moment.bays[place + 1])
    if why is not None:
        raise Blocked(why)
    # A book is never blocked with itself, so equal books come as far as this, and are refused.
    bays, stands = live(n, moment.bays, moment.stands, (place,))
    return Moment(bays, stands, moment.inside, moment.gone)


def has_way(n, moment, place):
    """Return whether a change at a place where the books may change leaves a way."""
    try:
        live(n, moment.bays, moment.stands, (place,))
    except Unfit:
        return False
    return True


def exchangeable(n, moment):
    """Return the places at which bays may exchange their places at this moment, ascending."""
    return tuple([place for place in may_change(n, moment.bays) if has_way(n, moment, place)])


def ended(moment):
    """Return the moment at which all that is held has come out."""
    kinds = ending(moment.bays, moment.stands[0])
    return given_out(moment, moment.bays, (empty(moment.bays),), moment.inside, kinds)
