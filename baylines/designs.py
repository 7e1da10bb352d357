"""Designs: which bays of a shelf, one behind another, make what is wanted."""

from baylines.bounds import MAX_STEPS, MAX_TUPLES, MAX_WANTED
from baylines.counting import is_within
from baylines.errors import TooMany
from baylines.rows import row_error, same_things
from baylines.running import through


def is_pair_of_rows(n, value):
    """Return whether value, any value, is a pair of rows of n."""
    if not isinstance(value, tuple) or len(value) != 2:
        return False
    return row_error(n, value[0]) is None and row_error(n, value[1]) is None


def wanted_error(n, value):
    """Return None if value, any value, is wanted of n, otherwise what is wrong with it."""
    if not isinstance(value, tuple) or not 1 <= len(value) <= MAX_WANTED:
        return "form"
    for place, item in enumerate(value):
        if not is_pair_of_rows(n, item):
            return ("pair", place)
    for place, (row, other) in enumerate(value):
        if not same_things(row, other):
            return ("things", place)
    return None


def begun_of(wanted):
    """Return the tuple of all first rows."""
    return tuple([row for row, _ in wanted])


def goal_of(wanted):
    """Return the tuple of what all first rows are to become."""
    return tuple([other for _, other in wanted])


def led(book, stand):
    """Return what has become of the rows of stand behind a bay with book."""
    return tuple([through(book, row) for row in stand])


def fresh(shelf, stand, came):
    """Return the stands that come of stand by one bay more, and did not come yet.

    came has all stands that have come as keys, and gets these: for each one
    (stand ahead, place) of the bay by which it came first.
    """
    found = []
    for place, book in enumerate(shelf):
        behind = led(book, stand)
        if behind not in came:
            came[behind] = (stand, place)
            found.append(behind)
    return found


def check_few(came):
    """Raise TooMany(MAX_TUPLES) if more stands have come."""
    if len(came) > MAX_TUPLES:
        raise TooMany(MAX_TUPLES)


def places_to(came, stand):
    """Return the places of the bays by which stand came."""
    places = []
    at = came[stand]
    while at is not None:
        places.append(at[1])
        at = came[at[0]]
    return tuple(places[::-1])


def design(n, shelf, wanted, most):
    """Return the first shortest tuple of at most most places that makes what is wanted, or None."""
    goal = goal_of(wanted)
    level = [begun_of(wanted)]
    came = {level[0]: None}
    steps = 0
    while goal not in came:
        if steps == most:
            return None
        check_few(came)
        level = [behind for stand in level for behind in fresh(shelf, stand, came)]
        steps += 1
    return places_to(came, goal)


def is_tuple_of_places(shelf, value):
    """Return whether value, any value, is a tuple of at most MAX_STEPS places of shelf."""
    if not isinstance(value, tuple) or len(value) > MAX_STEPS:
        return False
    return all([is_within(0, len(shelf) - 1, item) for item in value])


def design_error(n, shelf, wanted, value):
    """Return None if value, any value, is a tuple of places that makes what is wanted, otherwise what is wrong."""
    if not is_tuple_of_places(shelf, value):
        return "form"
    stand = begun_of(wanted)
    for place in value:
        stand = led(shelf[place], stand)
    for place, row in enumerate(goal_of(wanted)):
        if stand[place] != row:
            return ("wanted", place)
    return None


def next_level(shelf, level, came):
    """Return the stands that come of those of level by one bay more; TooMany as soon as too many have come."""
    found = []
    for stand in level:
        found.extend(fresh(shelf, stand, came))
        check_few(came)
    return found


def tuples(n, shelf, begun, most):
    """Return for each k from 0 to most how many stands come of begun behind k bays and no fewer."""
    level = [begun]
    came = {begun: None}
    found = [1]
    for _ in range(most):
        level = next_level(shelf, level, came)
        found.append(len(level))
    return tuple(found)


def all_that_come(shelf, begun):
    """Return a dict with all stands that come of begun as keys."""
    level = [begun]
    came = {begun: None}
    while level:
        level = next_level(shelf, level, came)
    return came


def all_tuples(n, shelf, begun):
    """Return all stands that come of begun, ascending."""
    return tuple(sorted(all_that_come(shelf, begun)))


def never(n, shelf, wanted):
    """Return whether no line of books of shelf, however long, makes what is wanted."""
    return goal_of(wanted) not in all_that_come(shelf, begun_of(wanted))
