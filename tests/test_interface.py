"""The interface: each name in its file, with its arguments."""

import importlib
import inspect
import unittest

FUNCTIONS = {
    "rows": {
        "row_error": ["n", "value"], "same_things": ["one", "other"], "ahead": ["row", "place"],
        "is_rising": ["row"], "rows_of": ["n", "many"],
    },
    "rowtexts": {"row_text": ["row"], "read_row": ["n", "value"]},
    "books": {
        "book_error": ["n", "value"], "passes": ["book", "x", "h"], "passed": ["book", "x"], "passers": ["book"],
        "ranked": ["levels"], "closed": ["n", "pairs"], "only": ["book", "chosen"], "common": ["one", "other"],
        "renamed": ["book", "names"], "all_books": ["n"],
    },
    "booktexts": {"book_text": ["book"], "read_book": ["n", "value"]},
    "lines": {"line_error": ["n", "value"], "standing_error": ["n", "line", "value"], "empty": ["line"]},
    "running": {
        "step": ["line", "standing", "thing"], "run": ["line", "standing", "row"],
        "ending": ["line", "standing"], "whole": ["line", "row"], "through": ["book", "row"],
    },
    "tables": {
        "table": ["n", "line"], "table_whole": ["told", "row"], "merged_number": ["told"], "merged": ["told"],
    },
    "rounds": {"many_rounds": ["n", "line", "row", "times"]},
    "changing": {"blocked": ["n", "one", "other"], "parting": ["n", "one", "other"]},
    "doubles": {
        "doubles": ["n", "one", "other"], "doubles_error": ["n", "one", "other", "value"],
        "changed": ["n", "one", "other", "held"],
    },
    "changes": {
        "may_change": ["n", "line"], "change": ["n", "line", "places"],
        "live": ["n", "line", "standings", "places"],
    },
    "forms": {
        "first_bays": ["n", "line"], "least_line": ["n", "line"], "lines_of": ["n", "line"],
        "calmest": ["n", "line"], "road": ["n", "one", "other"],
    },
    "sameness": {"bare": ["line"], "leaned": ["n", "line"], "parted": ["n", "one", "other"]},
    "papers": {"kept": ["n", "one", "other"], "kept_error": ["n", "one", "other", "value"]},
    "sources": {
        "sources": ["n", "line", "row"], "source": ["n", "line", "row", "number"], "can_come": ["n", "line", "row"],
        "fixed": ["n", "line", "many"], "reached": ["n", "line", "many"],
    },
    "designs": {
        "wanted_error": ["n", "value"], "design": ["n", "shelf", "wanted", "most"],
        "design_error": ["n", "shelf", "wanted", "value"], "tuples": ["n", "shelf", "begun", "most"],
        "all_tuples": ["n", "shelf", "begun"], "never": ["n", "shelf", "wanted"],
    },
    "ranks": {
        "full": ["n"], "fewest_full": ["row"], "sorts_error": ["n", "line", "many"], "lifted": ["n", "line"],
        "first_to_rise": ["n", "shelf", "row", "most"],
    },
    "telling": {
        "facts": ["n", "row", "out"], "facts_of": ["n", "seen"], "fit": ["n", "passing", "staying"],
        "sure": ["n", "passing", "staying"], "many_fit": ["n", "passing", "staying"],
        "telling_row": ["n", "passing", "staying", "many"],
    },
    "lexing": {"is_name": ["value"], "tokens": ["value"]},
    "plants": {"plant_error": ["value"], "book_in": ["plant", "name"], "line_in": ["plant", "name"]},
    "planttexts": {"plant_text": ["plant"], "read_plant": ["value"]},
    "desks": {"desk_behind": ["n", "value"]},
}

# The methods of each class, with what they are handed.
CLASSES = {
    "desks": {
        "Desk": {
            "__init__": ["n"], "put": ["place", "book"], "take": ["place"], "come": ["kind"], "change": ["place"],
            "end": [], "may": [], "rest": [], "undo": [], "at": ["version"], "copy": [], "__eq__": ["other"],
        },
    },
    "shells": {"Shell": {"__init__": [], "say": ["line"], "script": ["value"]}},
}

# What each object has from the first on.
ATTRIBUTES = {"Desk": ("n", "line", "ways", "standing", "held", "outs", "version", "log")}


class Interface(unittest.TestCase):

    def test_each_function_is_defined_in_its_file_with_its_arguments(self):
        for file, functions in FUNCTIONS.items():
            module = importlib.import_module("baylines." + file)
            for name, arguments in functions.items():
                with self.subTest(file=file, name=name):
                    function = getattr(module, name)
                    self.assertTrue(inspect.isfunction(function))
                    self.assertEqual(function.__module__, "baylines." + file)
                    self.assertEqual(list(inspect.signature(function).parameters), arguments)

    def test_each_method_is_defined_in_its_class_with_its_arguments(self):
        for file, classes in CLASSES.items():
            module = importlib.import_module("baylines." + file)
            for name, methods in classes.items():
                made = getattr(module, name)
                self.assertEqual(made.__module__, "baylines." + file)
                for method, arguments in methods.items():
                    with self.subTest(name=name, method=method):
                        function = vars(made)[method]
                        self.assertTrue(inspect.isfunction(function))
                        self.assertEqual(list(inspect.signature(function).parameters), ["self"] + arguments)

    def test_each_attribute_is_there_when_the_object_is_made(self):
        desk = importlib.import_module("baylines.desks").Desk(3)
        for name in ATTRIBUTES["Desk"]:
            self.assertTrue(hasattr(desk, name), name)

    def test_keywords_stand_in_lexing(self):
        self.assertIsInstance(importlib.import_module("baylines.lexing").KEYWORDS, tuple)

    def test_all_files_are_there(self):
        told = set(FUNCTIONS) | set(CLASSES) | {"bounds", "errors"}
        self.assertEqual(len(told), 25)
        for file in told:
            self.assertEqual(importlib.import_module("baylines." + file).__name__, "baylines." + file)


if __name__ == "__main__":
    unittest.main()
