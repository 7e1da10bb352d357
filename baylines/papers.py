"""Kept papers: what shows that two lines do the same."""

from baylines.bounds import MAX_BAYS, MAX_DOUBLES
from baylines.judging import first_fault
from baylines.lines import standing_error
from baylines.rows import is_kind
from baylines.sameness import begin_of, differs, ends_unlike, joint_standings, lead


def kept(n, one, other):
    """Return a kept paper of both lines, None if they don't do the same."""
    found, row = joint_standings(n, one, other)
    return tuple(found) if row is None else None


def is_out(n, value):
    """Return whether value, any value, is a tuple of at most MAX_BAYS kinds."""
    return isinstance(value, tuple) and len(value) <= MAX_BAYS and all([is_kind(n, item) for item in value])


def is_ahead(n, value):
    """Return whether value, any value, is a pair of tuples of kinds, one of them ()."""
    if not isinstance(value, tuple) or len(value) != 2:
        return False
    return is_out(n, value[0]) and is_out(n, value[1]) and () in value


def is_joint(n, one, other, value):
    """Return whether value, any value, is made as a joint standing in a kept paper is."""
    if not isinstance(value, tuple) or len(value) != 3:
        return False
    errors = (standing_error(n, one, value[0]), standing_error(n, other, value[1]))
    return errors == (None, None) and is_ahead(n, value[2])


def has_form(n, one, other, value):
    """Return whether value, any value, is a tuple of unlike triples as in a kept paper."""
    if not isinstance(value, tuple) or not 1 <= len(value) <= MAX_DOUBLES:
        return False
    # What is not made so may be such that no set takes it, so this is asked first.
    return all([is_joint(n, one, other, item) for item in value]) and len(set(value)) == len(value)


def joint_error(n, one, other, joint, place, among):
    """Return what is wrong with the triple at place, None if nothing is; among has all as keys."""
    behind = [lead(one, other, joint, kind) for kind in range(n)]
    unlike = [differs(then) for then in behind]
    away = [then not in among for then in behind]
    return first_fault(place, unlike, away, ends_unlike(one, other, joint))


def kept_error(n, one, other, value):
    """Return None if value, any value, is a kept paper of both lines, otherwise what is wrong."""
    if not has_form(n, one, other, value):
        return "form"
    among = {joint: True for joint in value}
    if begin_of(one, other) not in among:
        return "begin"
    for place, joint in enumerate(value):
        error = joint_error(n, one, other, joint, place, among)
        if error is not None:
            return error
    return None
