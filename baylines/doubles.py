"""Doubles: what two bays hold in one order, and what they hold in the other one."""

from baylines.books import only, passes
from baylines.changing import alone, blocked
from baylines.errors import Blocked
from baylines.judging import first_fault
from baylines.lines import none_first, standing_error
from baylines.running import ending, step

NOTHING = (None, None, None, None)


def passed_alone(one, other):
    """Return the kinds that are passed in one by some kind that passes in one alone."""
    return [h for _, h in only(one, alone(one, other))]


def doubles(n, one, other):
    """Return all doubles of the books, ascending; Blocked(why) if they are blocked."""
    why = blocked(n, one, other)
    if why is not None:
        raise Blocked(why)
    in_one = passed_alone(one, other)
    in_other = passed_alone(other, one)
    found = [NOTHING]
    for u in range(n):
        found.append((u, None, u, None))
        for v in range(n):
            if not passes(one, u, v) and not passes(other, u, v):
                found.append((u, v, u, v))
            if (passes(other, u, v) and v in in_other) or (passes(one, v, u) and u in in_one):
                found.append((u, v, v, u))
    return tuple(sorted(found, key=none_first))


def is_double(n, one, other, value):
    """Return whether value, any value, is a double, each half a standing of its line."""
    if not isinstance(value, tuple) or len(value) != 4:
        return False
    halves = (standing_error(n, (one, other), value[:2]), standing_error(n, (other, one), value[2:]))
    return halves == (None, None)


def is_paper(n, one, other, value):
    """Return whether value, any value, is a tuple of unlike doubles."""
    if not isinstance(value, tuple):
        return False
    # What is no double may be such that no set takes it, so this is asked first.
    return all([is_double(n, one, other, item) for item in value]) and len(set(value)) == len(value)


def moved(one, other, double, kind):
    """Return the double to which kind leads, and the pair of what comes out of both orders."""
    behind, out = step((one, other), double[:2], kind)
    other_behind, other_out = step((other, one), double[2:], kind)
    return (behind + other_behind, (out, other_out))


def double_error(n, one, other, double, place, among):
    """Return what is wrong with the double at place, None if nothing is; among has all as keys."""
    moves = [moved(one, other, double, kind) for kind in range(n)]
    unlike = [out[0] != out[1] for _, out in moves]
    away = [behind not in among for behind, _ in moves]
    unlike_ends = ending((one, other), double[:2]) != ending((other, one), double[2:])
    return first_fault(place, unlike, away, unlike_ends)


def doubles_error(n, one, other, value):
    """Return None if value, any value, is a paper for the books, otherwise what is wrong."""
    if not is_paper(n, one, other, value):
        return "form"
    among = {double: True for double in value}
    if NOTHING not in among:
        return "begin"
    for place, double in enumerate(value):
        error = double_error(n, one, other, double, place, among)
        if error is not None:
            return error
    return None


def shares(n, one, other):
    """Return a dict: for each standing that is in a double, those it may become, ascending."""
    found = {}
    for double in doubles(n, one, other):
        found.setdefault(double[:2], []).append(double[2:])
    return found


def changed(n, one, other, held):
    """Return all standings that held may become when the bays change places, ascending."""
    return tuple(shares(n, one, other).get(held, []))
