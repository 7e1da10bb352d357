"""The interface: each name in its file, with its arguments."""

import importlib
import inspect
import unittest

FUNCTIONS = {
    "rows": {
        "row_error": ["n", "value"], "same_things": ["one", "other"], "ahead": ["row", "place"],
        "is_rising": ["row"], "rows_of": ["n", "many"],
    },
    "rowtexts": {"row_text": ["row"], "read_row": ["n", "value"]},
}


class Interface(unittest.TestCase):

    def test_each_function_is_defined_in_its_file_with_its_arguments(self):
        for file, functions in FUNCTIONS.items():
            module = importlib.import_module("baylines." + file)
            for name, arguments in functions.items():
                with self.subTest(file=file, name=name):
                    function = getattr(module, name)
                    self.assertTrue(inspect.isfunction(function))
                    self.assertEqual(function.__module__, "baylines." + file)
                    self.assertEqual(list(inspect.signature(function).parameters), arguments)


if __name__ == "__main__":
    unittest.main()
