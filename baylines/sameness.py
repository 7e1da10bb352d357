"""Lines that do the same, and rows that part the others."""

from baylines.bounds import MAX_DOUBLES
from baylines.errors import TooMany
from baylines.forms import calmest
from baylines.lines import empty
from baylines.running import ending, step


def bare(line):
    """Return line without its idle bays."""
    return tuple([book for book in line if book != ()])


def leaned(n, line):
    """Return a line that does the same with no idle bays, like books beside one another."""
    return calmest(n, bare(line))


def begin_of(one, other):
    """Return the joint standing of no thing."""
    return (empty(one), empty(other), ((), ()))


def added(came_out, out):
    """Return a tuple of what came out with out, perhaps None, behind it."""
    return came_out if out is None else came_out + (out,)


def lead(one, other, joint, kind):
    """Return the joint standing to which kind leads."""
    behind, out = step(one, joint[0], kind)
    other_behind, other_out = step(other, joint[1], kind)
    ahead = added(joint[2][0], out)
    other_ahead = added(joint[2][1], other_out)
    # As long as the lines don't differ one of both is (): one thing at the
    # most came to it, so one at the most can be alike at the front of both.
    if ahead != () and ahead[:1] == other_ahead[:1]:
        return (behind, other_behind, (ahead[1:], other_ahead[1:]))
    return (behind, other_behind, (ahead, other_ahead))


def differs(joint):
    """Return whether both lines gave out a thing at which they differ."""
    return () not in joint[2]


def ends_unlike(one, other, joint):
    """Return whether the end makes unlike rows of what came out ahead."""
    ahead, other_ahead = joint[2]
    return ahead + ending(one, joint[0]) != other_ahead + ending(other, joint[1])


def joint_standings(n, one, other):
    """Return (joint standings by number, None), or with the row to the first one that parts.

    TooMany(MAX_DOUBLES) is raised if more would have a number by then.
    """
    found = [begin_of(one, other)]
    rows = {found[0]: ()}
    at = 0
    while at < len(found):
        joint = found[at]
        row = rows[joint]
        if differs(joint) or ends_unlike(one, other, joint):
            return (found, row)
        for kind in range(n):
            behind = lead(one, other, joint, kind)
            if behind not in rows:
                if len(found) >= MAX_DOUBLES:
                    raise TooMany(MAX_DOUBLES)
                rows[behind] = row + (kind,)
                found.append(behind)
        at += 1
    return (found, None)


def parted(n, one, other):
    """Return the first shortest row of which both lines make unlike rows, None if there is none."""
    _, row = joint_standings(n, one, other)
    return row
