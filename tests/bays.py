"""Bays, and what two of them hold, as the document's words tell it, by no way of the package's."""

import functools
import itertools


class Bays:
    """Bays one behind another, each told what is behind it, as [C2] says it.

    Things are any values of which kind_of tells the kind.
    """

    def __init__(self, line, held, kind_of=int):
        self.books = [set(book) for book in line]
        self.held = list(held)
        self.kind_of = kind_of
        self.out = []

    def come(self, thing, place=0):
        if place == len(self.books):
            self.out.append(thing)
            return
        there = self.held[place]
        if there is None:
            self.held[place] = thing
        elif (self.kind_of(thing), self.kind_of(there)) in self.books[place]:
            self.come(thing, place + 1)
        else:
            self.held[place] = thing
            self.come(there, place + 1)

    def end(self):
        for place in range(len(self.books)):
            there, self.held[place] = self.held[place], None
            if there is not None:
                self.come(there, place + 1)


def told_run(line, standing, row):
    """What run has to return."""
    bays = Bays(line, standing)
    for thing in row:
        bays.come(thing)
    return (tuple(bays.held), tuple(bays.out))


def told_ending(line, standing):
    """What ending has to return."""
    bays = Bays(line, standing)
    bays.end()
    return tuple(bays.out)


def marked_whole(line, row):
    """Return what comes out of line as pairs (kind, place in row), the end too."""
    bays = Bays(line, (None,) * len(line), lambda thing: thing[0])
    for place, kind in enumerate(row):
        bays.come((kind, place))
    bays.end()
    return bays.out


def standings(n, many):
    """Return all tuples of many items, kinds of n ahead of Nones."""
    found = []
    for held in range(many + 1):
        found += [kinds + (None,) * (many - held) for kinds in itertools.product(range(n), repeat=held)]
    return found


def told_whole(line, row):
    """What whole has to return."""
    standing, out = told_run(line, (None,) * len(line), row)
    return out + told_ending(line, standing)


def none_first(items):
    """Return what tuples of kinds and Nones are sorted by."""
    return [(item is not None, item or 0) for item in items]


def coming(n, line):
    """Return the list of all standings that come in line, by the way of [D1]."""
    found = [(None,) * len(line)]
    seen = set(found)
    # The list grows as it is gone through, so each standing has its turn.
    for standing in found:
        for kind in range(n):
            behind, _ = told_run(line, standing, (kind,))
            if behind not in seen:
                seen.add(behind)
                found.append(behind)
    return found


def whom(book, x):
    """Return the set of whom x passes."""
    return {h for passer, h in book if passer == x}


def told_blocked(n, one, other):
    """What blocked has to return."""
    for x in range(n):
        if whom(one, x) and whom(other, x) and whom(one, x) != whom(other, x):
            return ("unlike", x)
    for x in range(n):
        for y in range(n):
            x_alone = whom(one, x) and not whom(other, x)
            y_alone = whom(other, y) and not whom(one, y)
            if x_alone and y_alone and ({x} | whom(one, x)) & ({y} | whom(other, y)):
                return ("common", x, y)
    return None


def is_like(one, other, double):
    """Return whether a double is like, u and v being kinds."""
    u, v, p, q = double
    return (p, q) == (u, v) and v not in whom(one, u) and v not in whom(other, u)


def is_turned(n, one, other, double):
    """Return whether a double is turned, u and v being kinds."""
    u, v, p, q = double
    by_other = any(v in whom(other, y) and not whom(one, y) for y in range(n))
    by_one = any(u in whom(one, x) and not whom(other, x) for x in range(n))
    told = (v in whom(other, u) and by_other) or (u in whom(one, v) and by_one)
    return (p, q) == (v, u) and told


@functools.lru_cache(maxsize=1000)
def told_doubles(n, one, other):
    """What doubles has to return of books that are not blocked."""
    found = {(None,) * 4} | {(u, None, u, None) for u in range(n)}
    for double in itertools.product(range(n), repeat=4):
        if is_like(one, other, double) or is_turned(n, one, other, double):
            found.add(double)
    return tuple(sorted(found, key=none_first))


def told_changed(n, one, other, held):
    """What changed has to return of books that are not blocked."""
    return tuple([double[2:] for double in told_doubles(n, one, other) if double[:2] == held])


def told_lead(one, other, joint, kind):
    """Return the joint standing of one and other to which kind leads."""
    behind, out = told_run(one, joint[0], (kind,))
    other_behind, other_out = told_run(other, joint[1], (kind,))
    ahead, other_ahead = joint[2][0] + out, joint[2][1] + other_out
    while ahead and other_ahead and ahead[0] == other_ahead[0]:
        ahead, other_ahead = ahead[1:], other_ahead[1:]
    return (behind, other_behind, (ahead, other_ahead))


def told_parts(one, other, joint):
    """Return whether a joint standing parts."""
    standing, other_standing, (ahead, other_ahead) = joint
    if ahead and other_ahead:
        return True
    return ahead + told_ending(one, standing) != other_ahead + told_ending(other, other_standing)


def told_begin(one, other):
    """Return the joint standing of no thing."""
    return ((None,) * len(one), (None,) * len(other), ((), ()))


def told_joints(n, one, other, limit=4000):
    """Return (joint standings in order, row of the first one that parts or None), None if these are too many."""
    found = [told_begin(one, other)]
    rows = {found[0]: ()}
    # The list grows as it is gone through, so each joint standing has its turn.
    for joint in found:
        if told_parts(one, other, joint):
            return (found, rows[joint])
        for kind in range(n):
            behind = told_lead(one, other, joint, kind)
            if behind not in rows:
                if len(found) == limit:
                    return None
                rows[behind] = rows[joint] + (kind,)
                found.append(behind)
    return (found, None)
