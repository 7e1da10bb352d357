"""Runs examples as the document writes them.

Behind ">>> " stands a statement or an expression. The line below it, if it
is no further example, is what the expression shows, or "raises ERROR(..)".
"""

import ast

from baylines import errors

PROMPT = ">>> "
RAISES = "raises "


def steps(text):
    """Return the pairs (what is run, what is shown or None) of a text."""
    found = []
    for line in text.strip().splitlines():
        line = line.strip()
        if line.startswith(PROMPT):
            found.append((line[len(PROMPT):], None))
        elif line:
            found[-1] = (found[-1][0], line)
    return found


def is_expression(told):
    return isinstance(ast.parse(told).body[0], ast.Expr)


def check(case, text):
    """Run the examples of text in one namespace; fail case where one differs."""
    names = {}
    for told, shown in steps(text):
        with case.subTest(told=told):
            if not is_expression(told):
                case.assertIsNone(shown)
                exec(told, names)
            elif shown.startswith(RAISES):
                check_raises(case, told, shown[len(RAISES):], names)
            else:
                # repr tells True from 1, and a list from a tuple.
                case.assertEqual(repr(eval(told, names)), shown)


def check_raises(case, told, shown, names):
    wanted = eval(shown, dict(vars(errors)))
    with case.assertRaises(errors.BayError) as caught:
        eval(told, names)
    case.assertIs(type(caught.exception), type(wanted))
    case.assertEqual(repr(vars(caught.exception)), repr(vars(wanted)))
