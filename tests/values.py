"""Values of every sort, and checks that hold of every call."""

import copy

from baylines.errors import BayError


def nested(depth):
    """Return tuples, lists and dicts, one in another, depth deep."""
    value = 0
    for level in range(depth):
        value = ((value,), [value], {"a": value})[level % 3]
    return value


def no_kinds(n):
    """Return values of every sort none of which is a kind of n."""
    return [
        None, True, False, -1, -n, n, n + 1, 10 ** 399, -(10 ** 399),
        "", "a", "0", "None", "a\n", (), (0,), ((0,),), [], [0], {}, {0: 0},
        {(0,): None}, nested(5), nested(20),
    ]


def no_tuples():
    """Return values of every sort none of which is a tuple."""
    return [
        None, True, False, 0, 1, -1, 10 ** 399, "", "a", "abc", "0" * 20000,
        [], [0], [0, 1], [(0,)], [0] * 4000, {}, {0: 0}, {"a": (0,)}, nested(3), nested(18),
    ]


def no_pairs(n):
    """Return values of every sort none of which is a pair of kinds of n."""
    return no_kinds(n) + [
        (0, 0, 0), (0, n), (n, 0), (-1, 0), (0, -1), (None, 0), (0, None), (True, 0), (0, False),
        ("a", "b"), ("0", 0), ((0,), 0), (0, (0,)), ((0, 0), (0, 0)), ((0, 0),), [0, 0], [(0, 0)],
        {0: 0, 1: 0}, "ab", "a>b", (0, []), ({}, 0), (0, 10 ** 399), (nested(4), 0), (0,) * 60,
    ]


def no_strings():
    """Return values of every sort none of which is a string."""
    return [
        None, True, False, 0, -1, 10 ** 399, (), ("a",), ("a", "b"), (0,), [], ["a"],
        {}, {"a": "a"}, nested(4), nested(20),
    ]


def outcome(call, /, *args, **named):
    """Return what a call returned, or the class and the fields of its error."""
    try:
        return ("returned", repr(call(*args, **named)))
    except BayError as error:
        return ("raised", type(error), repr(vars(error)))


def check_call(case, call, /, **named):
    """Check what holds of every call, and return its outcome.

    By place and by name it gets the same, again it gets the same, and what is
    handed in stays as it was. The names have to be given in their order.
    """
    before = copy.deepcopy(named)
    first = outcome(call, *named.values())
    case.assertEqual(first, outcome(call, **named))
    case.assertEqual(first, outcome(call, *named.values()))
    backwards = {name: named[name] for name in reversed(list(named))}
    case.assertEqual(first, outcome(call, **backwards))
    case.assertEqual(repr(named), repr(before))
    return first


def check_returns(case, wanted, call, /, **named):
    """Check that a call returns just this, True told from 1, and all that holds."""
    case.assertEqual(("returned", repr(wanted)), check_call(case, call, **named))


def check_error(case, wanted, call, /, **named):
    """Check that a call raises an error of this class with these fields."""
    case.assertEqual(("raised", type(wanted), repr(vars(wanted))), check_call(case, call, **named))
