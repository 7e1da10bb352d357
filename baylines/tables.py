"""Tables: all standings that come in a line, and where each kind leads from them."""

from baylines.bounds import MAX_STANDINGS
from baylines.errors import TooMany
from baylines.lines import empty
from baylines.running import ending, step


def table(n, line):
    """Return the table of line; TooMany(MAX_STANDINGS) if more standings come."""
    standings = [empty(line)]
    numbers = {standings[0]: 0}
    told = []
    while len(told) < len(standings):
        standing = standings[len(told)]
        nexts = []
        for kind in range(n):
            behind, out = step(line, standing, kind)
            if behind not in numbers:
                if len(standings) >= MAX_STANDINGS:
                    raise TooMany(MAX_STANDINGS)
                numbers[behind] = len(standings)
                standings.append(behind)
            nexts.append((numbers[behind], out))
        told.append((standing, tuple(nexts), ending(line, standing)))
    return tuple(told)


def table_whole(told, row):
    """Return what the line of a table makes of row, by the table alone."""
    came_out = []
    number = 0
    for thing in row:
        number, out = told[number][1][thing]
        if out is not None:
            came_out.append(out)
    return tuple(came_out) + told[number][2]


def numbered(items):
    """Return a number for each item: for a new one how many unlike ones stand ahead."""
    numbers = {}
    for item in items:
        numbers.setdefault(item, len(numbers))
    return tuple([numbers[item] for item in items])


def leads(nexts):
    """Return the numbers to which the kinds lead."""
    return [pair[0] for pair in nexts]


def outs(nexts):
    """Return what comes out by each kind."""
    return tuple([pair[1] for pair in nexts])


def merged_number(told):
    """Return a number for each standing of a table, the same for alike ones."""
    numbers = numbered([(outs(nexts), rest) for _, nexts, rest in told])
    while True:
        # Each time the rows that tell standings apart may be longer by one thing.
        finer = numbered([
            (number, tuple([numbers[to] for to in leads(nexts)]))
            for number, (_, nexts, _) in zip(numbers, told)
        ])
        if finer == numbers:
            return numbers
        numbers = finer


def merged(told):
    """Return the least table of the line of a table."""
    numbers = merged_number(told)
    least = []
    for number, (_, nexts, rest) in zip(numbers, told):
        if number == len(least):
            least.append((tuple([(numbers[to], out) for to, out in nexts]), rest))
    return tuple(least)
