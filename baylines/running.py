"""Things that come to a line, one behind another, and what comes out of it."""

from baylines.books import passes
from baylines.lines import empty


def step(line, standing, thing):
    """Return the pair (standing behind, out) when thing has come; out may be None."""
    behind = list(standing)
    moving = thing
    for place, book in enumerate(line):
        held = behind[place]
        if held is None:
            behind[place] = moving
            return (tuple(behind), None)
        if not passes(book, moving, held):
            behind[place] = moving
            moving = held
    return (tuple(behind), moving)


def run(line, standing, row):
    """Return the pair (standing behind, row of what came out) when all of row has come."""
    behind = standing
    came_out = []
    for thing in row:
        behind, out = step(line, behind, thing)
        if out is not None:
            came_out.append(out)
    return (behind, tuple(came_out))


def ending(line, standing):
    """Return the row that comes out when each bay gives out what it holds."""
    came_out = []
    left = standing
    for place in range(len(line)):
        # What a bay gives out comes to the bays behind it, as to a line of these.
        given = left[0]
        left = left[1:]
        if given is not None:
            left, out = run(line[place + 1:], left, (given,))
            came_out.extend(out)
    return tuple(came_out)


def whole(line, row):
    """Return the row of all that comes out of line when row and the end have come."""
    standing, out = run(line, empty(line), row)
    return out + ending(line, standing)


def through(book, row):
    """Return the row of all that comes out of one bay with book."""
    # This is whole((book,), row), but bays are asked so often that it is done
    # in one go. None passes nobody, and nobody passes it; it goes on first.
    passing = {pair: True for pair in book}
    came_out = []
    held = None
    for thing in row:
        if (thing, held) in passing:
            came_out.append(thing)
        else:
            came_out.append(held)
            held = thing
    came_out.append(held)
    return tuple(came_out[1:])
