"""Sources of rows: which rows, and how many, a line makes into one."""

from baylines.bounds import MAX_STANDINGS
from baylines.counting import is_within
from baylines.errors import TooMany, Unfit
from baylines.lines import empty
from baylines.running import ending, step


def moves(n, line, standing, known):
    """Return for each kind the pair (standing behind, out) of step; known keeps them."""
    if standing not in known:
        known[standing] = [step(line, standing, kind) for kind in range(n)]
    return known[standing]


def check_few(many):
    """Raise TooMany(MAX_STANDINGS) if many is more."""
    if many > MAX_STANDINGS:
        raise TooMany(MAX_STANDINGS)


def due(line, row, place):
    """Return what has to come out by the thing at place of a source of row, None for nothing."""
    return row[place - len(line)] if place >= len(line) else None


def stages(n, line, row, known):
    """Return for each k a list of S(k), the standings behind k things that may come of row."""
    found = [[empty(line)]]
    for place in range(len(row)):
        behind = {}
        for standing in found[place]:
            for then, out in moves(n, line, standing, known):
                if out == due(line, row, place):
                    behind[then] = True
        check_few(len(behind))
        found.append(list(behind))
    return found


def ways_on(n, line, row, known):
    """Return for each k a dict: for each standing of S(k) how many ways lead on to the rest of row."""
    found = stages(n, line, row, known)
    rest = row[max(0, len(row) - len(line)):]
    counts = [{standing: 1 if ending(line, standing) == rest else 0 for standing in found[len(row)]}]
    for place in reversed(range(len(row))):
        wanted = due(line, row, place)
        behind = counts[-1]
        counts.append({
            standing: sum([behind[then] for then, out in known[standing] if out == wanted])
            for standing in found[place]
        })
    return counts[::-1]


def sources(n, line, row):
    """Return how many sources row has by line."""
    return ways_on(n, line, row, {})[0][empty(line)]


def can_come(n, line, row):
    """Return whether row has a source by line."""
    return sources(n, line, row) > 0


def chosen(nexts, wanted, counts, number):
    """Return (kind, standing behind, number left) of the way on that the number-th source goes.

    By lesser kinds as many sources go on as counts tells of where they lead.
    """
    ways = [(kind, then) for kind, (then, out) in enumerate(nexts) if out == wanted]
    left = number
    at = 0
    while left >= counts[ways[at][1]]:
        left -= counts[ways[at][1]]
        at += 1
    return (ways[at][0], ways[at][1], left)


def source(n, line, row, number):
    """Return the number-th source of row by line; Unfit() if number, any value, is of none."""
    known = {}
    counts = ways_on(n, line, row, known)
    standing = empty(line)
    if not is_within(0, counts[0][standing] - 1, number):
        raise Unfit()
    left = number
    found = []
    for place in range(len(row)):
        kind, standing, left = chosen(known[standing], due(line, row, place), counts[place + 1], left)
        found.append(kind)
    return tuple(found)


def waits(n, line, pair, known):
    """Return the pairs (standing, waiting) to which a pair leads by kinds that let the row be its own source."""
    standing, waiting = pair
    found = []
    for kind, (then, out) in enumerate(moves(n, line, standing, known)):
        longer = waiting + (kind,)
        if out is None:
            found.append((then, longer))
        elif out == longer[0]:
            found.append((then, longer[1:]))
    return found


def fixed(n, line, many):
    """Return how many rows of many things are sources of themselves by line."""
    known = {}
    leads = {}
    counts = {(empty(line), ()): 1}
    for _ in range(many):
        behind = {}
        for pair in counts:
            if pair not in leads:
                leads[pair] = waits(n, line, pair, known)
            for then in leads[pair]:
                behind[then] = behind.get(then, 0) + counts[pair]
        check_few(len(behind))
        counts = behind
    return sum([counts[pair] for pair in counts if ending(line, pair[0]) == pair[1]])


def lots_behind(n, line, lot, known):
    """Return the lots to which a lot leads, one for each thing that may come out, or nothing."""
    found = {}
    for standing in lot:
        for then, out in moves(n, line, standing, known):
            if out not in found:
                found[out] = {}
            found[out][then] = True
    # The standings of a lot hold as many things, so they can be compared.
    return [tuple(sorted(found[out])) for out in found]


def reached(n, line, many):
    """Return how many unlike rows of many things have a source by line."""
    known = {}
    leads = {}
    counts = {(empty(line),): 1}
    for _ in range(many):
        behind = {}
        for lot in counts:
            if lot not in leads:
                leads[lot] = lots_behind(n, line, lot, known)
            for then in leads[lot]:
                behind[then] = behind.get(then, 0) + counts[lot]
        check_few(sum([len(lot) for lot in behind]))
        counts = behind
    return sum([counts[lot] * len({ending(line, standing) for standing in lot}) for lot in counts])
