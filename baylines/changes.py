"""Changes: neighbouring bays of a line that exchange their places."""

from baylines.changing import blocked
from baylines.doubles import shares
from baylines.errors import Unfit
from baylines.lines import none_first


def fits(n, line, place):
    """Return whether the bays at place, any integer, and behind it may change."""
    if not 0 <= place < len(line) - 1:
        return False
    one, other = line[place:place + 2]
    return one != other and blocked(n, one, other) is None


def may_change(n, line):
    """Return all places of which the bay and the one behind it may change, ascending."""
    return tuple([place for place in range(len(line) - 1) if fits(n, line, place)])


def exchanged(n, line, place):
    """Return line behind a change at place; Unfit() if none may be made there."""
    if not fits(n, line, place):
        raise Unfit()
    return line[:place] + (line[place + 1], line[place]) + line[place + 2:]


def change(n, line, places):
    """Return line behind changes at these places; Unfit() if one may not be made then."""
    behind = line
    for place in places:
        behind = exchanged(n, behind, place)
    return behind


def shared_out(shared, ways, place):
    """Return the ways behind a change at place, ascending; shared tells what both bays may hold."""
    found = {}
    for way in ways:
        for held in shared.get(way[place:place + 2], []):
            found[way[:place] + held + way[place + 2:]] = True
    return tuple(sorted(found, key=none_first))


def live(n, line, standings, places):
    """Return (line behind, ways behind) of changes that are made while the line runs.

    Unfit() is raised if a change may not be made then, or leaves no way.
    """
    behind = line
    ways = standings
    for place in places:
        shown = behind
        behind = exchanged(n, shown, place)
        ways = shared_out(shares(n, shown[place], shown[place + 1]), ways, place)
        if not ways:
            raise Unfit()
    return (behind, ways)
