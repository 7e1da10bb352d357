"""The interface: each name in its file, with its arguments."""

import importlib
import inspect
import unittest

FUNCTIONS = {
    "rows": {
        "row_error": ["n", "value"], "same_things": ["one", "other"], "ahead": ["row", "place"],
        "is_rising": ["row"], "rows_of": ["n", "many"],
    },
    "rowtexts": {"row_text": ["row"], "read_row": ["n", "value"]},
    "books": {
        "book_error": ["n", "value"], "passes": ["book", "x", "h"], "passed": ["book", "x"], "passers": ["book"],
        "ranked": ["levels"], "closed": ["n", "pairs"], "only": ["book", "chosen"], "common": ["one", "other"],
        "renamed": ["book", "names"], "all_books": ["n"],
    },
    "booktexts": {"book_text": ["book"], "read_book": ["n", "value"]},
    "lines": {"line_error": ["n", "value"], "standing_error": ["n", "line", "value"], "empty": ["line"]},
    "running": {
        "step": ["line", "standing", "thing"], "run": ["line", "standing", "row"],
        "ending": ["line", "standing"], "whole": ["line", "row"], "through": ["book", "row"],
    },
    "tables": {
        "table": ["n", "line"], "table_whole": ["told", "row"], "merged_number": ["told"], "merged": ["told"],
    },
    "rounds": {"many_rounds": ["n", "line", "row", "times"]},
    "changing": {"blocked": ["n", "one", "other"], "parting": ["n", "one", "other"]},
    "doubles": {
        "doubles": ["n", "one", "other"], "doubles_error": ["n", "one", "other", "value"],
        "changed": ["n", "one", "other", "held"],
    },
    "changes": {
        "may_change": ["n", "line"], "change": ["n", "line", "places"],
        "live": ["n", "line", "standings", "places"],
    },
    "forms": {
        "first_bays": ["n", "line"], "least_line": ["n", "line"], "lines_of": ["n", "line"],
        "calmest": ["n", "line"], "road": ["n", "one", "other"],
    },
    "sameness": {"bare": ["line"], "leaned": ["n", "line"], "parted": ["n", "one", "other"]},
    "papers": {"kept": ["n", "one", "other"], "kept_error": ["n", "one", "other", "value"]},
}


class Interface(unittest.TestCase):

    def test_each_function_is_defined_in_its_file_with_its_arguments(self):
        for file, functions in FUNCTIONS.items():
            module = importlib.import_module("baylines." + file)
            for name, arguments in functions.items():
                with self.subTest(file=file, name=name):
                    function = getattr(module, name)
                    self.assertTrue(inspect.isfunction(function))
                    self.assertEqual(function.__module__, "baylines." + file)
                    self.assertEqual(list(inspect.signature(function).parameters), arguments)


if __name__ == "__main__":
    unittest.main()
