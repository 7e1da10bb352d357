"""Forms of a line: what comes of it by changes of places, and the roads between."""

from itertools import combinations

from baylines.changing import blocked


def kept_order(n, line):
    """Return a dict with the pairs of places whose bays no changes bring past one another."""
    found = {}
    for i, j in combinations(range(len(line)), 2):
        if line[i] == line[j] or blocked(n, line[i], line[j]) is not None:
            found[(i, j)] = True
    return found


def free(order, left):
    """Return the places of those left that need not stay behind another one of them."""
    return [j for j in left if not any([(i, j) in order for i in left])]


def without(left, place):
    """Return the places that are left when this one is taken."""
    return [i for i in left if i != place]


def first_bays(n, line):
    """Return the places of the bays that stand first in some line that comes of line, ascending."""
    return tuple(free(kept_order(n, line), list(range(len(line)))))


def least_line(n, line):
    """Return the least line that comes of line."""
    order = kept_order(n, line)
    left = list(range(len(line)))
    taken = []
    while left:
        place = min(free(order, left), key=lambda i: line[i])
        taken.append(line[place])
        left = without(left, place)
    return tuple(taken)


def lines_of(n, line):
    """Return all lines that come of line, ascending."""
    order = kept_order(n, line)
    begun = [((), list(range(len(line))))]
    # Copies of a book stay in their order, so no line is met by two ways.
    for _ in line:
        begun = [
            (taken + (line[place],), without(left, place))
            for taken, left in begun for place in free(order, left)
        ]
    return tuple(sorted([taken for taken, _ in begun]))


def calmest(n, line):
    """Return the first line that comes of line with the fewest unlike neighbours."""
    # In the least line copies of a book stand apart only where a bay between
    # them is blocked with it, and there they do so in each line that comes.
    return least_line(n, line)


def copies(line):
    """Return for each bay its book, and how many of its book stand ahead."""
    return [(book, line[:place].count(book)) for place, book in enumerate(line)]


def turned(n, line, goals):
    """Return the first blocked pair of places whose goals stand the other way about, or None."""
    for i, j in combinations(range(len(line)), 2):
        if goals[i] > goals[j] and blocked(n, line[i], line[j]) is not None:
            return (i, j)
    return None


def road_to(goals):
    """Return the first shortest tuple of places at which changes bring goals into order."""
    left = list(goals)
    places = []
    place = 0
    while place < len(left) - 1:
        # A shortest road exchanges nothing but what stands the wrong way about.
        if left[place] > left[place + 1]:
            left[place], left[place + 1] = left[place + 1], left[place]
            places.append(place)
            place = 0
        else:
            place += 1
    return tuple(places)


def road(n, one, other):
    """Return ("road", places) from one line to the other, or what stands in the way."""
    if sorted(one) != sorted(other):
        return ("books",)
    wanted = copies(other)
    goals = [wanted.index(bay) for bay in copies(one)]
    pair = turned(n, one, goals)
    if pair is not None:
        return ("order", pair[0], pair[1])
    return ("road", road_to(goals))
