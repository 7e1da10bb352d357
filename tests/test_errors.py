"""The interface: baylines/errors.py."""

import inspect
import unittest

from baylines import errors
from tests.values import no_kinds, no_strings, no_tuples

# Each error with the name of its argument, None for none.
WANTED = {
    "Unfit": None, "BadText": "place", "BadBook": "error", "TooMany": "limit", "NoName": "given",
    "Taken": "given", "Blocked": "why", "NothingToUndo": None, "TooManyEdits": None, "BadLog": "place",
}


def any_values():
    return no_kinds(8) + no_tuples() + no_strings() + [0, 7, ("whom", 0, 1, 2), ("bay", 1, ("pair", 0))]


class Errors(unittest.TestCase):

    def test_there_are_just_these(self):
        told = [name for name, item in vars(errors).items() if inspect.isclass(item)]
        self.assertEqual(sorted(told), sorted(["BayError"] + list(WANTED)))

    def test_all_are_defined_here(self):
        for name in ["BayError"] + list(WANTED):
            self.assertEqual(getattr(errors, name).__module__, "baylines.errors")

    def test_bay_error_is_a_value_error(self):
        self.assertEqual(errors.BayError.__bases__, (ValueError,))
        with self.assertRaises(ValueError):
            raise errors.BayError()

    def test_each_stands_directly_under_bay_error(self):
        for name in WANTED:
            self.assertEqual(getattr(errors, name).__bases__, (errors.BayError,), name)

    def test_none_is_caught_as_another_one(self):
        classes = [getattr(errors, name) for name in WANTED]
        for one in classes:
            for other in classes:
                self.assertEqual(issubclass(one, other), one is other, (one, other))

    def test_each_keeps_what_it_was_made_with(self):
        for name, argument in WANTED.items():
            if argument is None:
                continue
            for value in any_values():
                with self.subTest(name=name, value=value):
                    before = repr(value)
                    by_place = getattr(errors, name)(value)
                    by_name = getattr(errors, name)(**{argument: value})
                    self.assertIs(getattr(by_place, argument), value)
                    self.assertIs(getattr(by_name, argument), value)
                    self.assertEqual(list(vars(by_place)), [argument])
                    self.assertEqual(list(vars(by_name)), [argument])
                    self.assertEqual(repr(value), before)

    def test_those_without_an_argument_keep_nothing(self):
        for name, argument in WANTED.items():
            if argument is None:
                self.assertEqual(vars(getattr(errors, name)()), {}, name)

    def test_each_is_raised_and_caught_with_what_it_keeps(self):
        for name, argument in WANTED.items():
            made = getattr(errors, name)
            for kind in (made, errors.BayError, ValueError):
                with self.assertRaises(kind) as caught:
                    raise made() if argument is None else made(("some", 1))
                if argument is not None:
                    self.assertEqual(getattr(caught.exception, argument), ("some", 1))

    def test_each_can_be_shown(self):
        for name, argument in WANTED.items():
            made = getattr(errors, name)
            error = made() if argument is None else made(nested_example())
            self.assertIsInstance(str(error), str)


def nested_example():
    return ("bay", 0, [{"a": (None, True)}])


if __name__ == "__main__":
    unittest.main()
