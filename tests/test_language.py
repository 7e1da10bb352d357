"""What LANGUAGE.md asks, as far as it can be read off the files: L1 to L28, each as its test tells it."""

import ast
import builtins
import pathlib
import unittest
import warnings

PACKAGE = pathlib.Path(__file__).resolve().parent.parent / "baylines"
LIBRARY = ("heapq", "math", "itertools", "collections", "__future__")

# L8, less what L27 removes.
BUILTINS = (
    "len range enumerate zip min max sum abs sorted reversed int str bool bytes list tuple dict set frozenset isinstance "
    "ord repr any all divmod pow Exception ValueError TypeError KeyError IndexError LookupError ZeroDivisionError property"
).split()

# L25.
METHODS = (
    "append clear copy count endswith extend find get index insert isalnum isalpha isdigit islower isspace isupper items "
    "join keys ljust lower lstrip partition pop remove replace reverse rfind rjust rpartition rsplit rstrip setdefault "
    "split splitlines startswith strip update upper values zfill bit_length add discard"
).split()

# L17.
NEVER = "register mro elements open input law version_info with_traceback add_note".split()
NO_WORDS = (
    "type typing enum Enum Generic Protocol ABC namedtuple NamedTuple TypedDict dataclass overload contextmanager"
).split()

STATEMENTS = (
    ast.Assign, ast.AugAssign, ast.If, ast.While, ast.For, ast.Return, ast.Break, ast.Continue, ast.Pass, ast.Raise,
    ast.Assert, ast.Delete, ast.Try, ast.Expr, ast.FunctionDef, ast.ClassDef, ast.ImportFrom,
)


def files():
    return sorted(PACKAGE.rglob("*.py"))


def tree(file):
    return ast.parse(file.read_text(encoding="utf-8"))


def nodes(*sorts):
    """Yield (file, node) for each node of these sorts in the package."""
    for file in files():
        for node in ast.walk(tree(file)):
            if isinstance(node, sorts):
                yield file.name, node


def bound(top):
    """Return the names that are bound anywhere below a node: assigned, looped over, parameters, captured."""
    names = [node.id for node in ast.walk(top) if isinstance(node, ast.Name) and not isinstance(node.ctx, ast.Load)]
    names += [node.arg for node in ast.walk(top) if isinstance(node, ast.arg)]
    return set(names + [node.name for node in ast.walk(top) if isinstance(node, ast.ExceptHandler) and node.name])


def imported(top):
    """Return the names that a file imports."""
    return {name.asname or name.name for node in top.body if isinstance(node, ast.ImportFrom) for name in node.names}


def defined(top, *sorts):
    """Return the names of the functions or classes in a file."""
    return [node.name for node in ast.walk(top) if isinstance(node, sorts)]


class Files(unittest.TestCase):

    def test_the_package_holds_nothing_but_its_files(self):
        others = [one for one in PACKAGE.rglob("*") if one.is_file() and "__pycache__" not in one.parts]
        self.assertEqual(sorted(others), files())
        self.assertTrue((PACKAGE / "__init__.py").is_file())

    def test_signs_and_sizes(self):
        for file in files():
            text = file.read_text(encoding="utf-8")
            self.assertEqual([sign for sign in text if not " " <= sign <= "~" and sign != "\n"], [], file)
            self.assertLess(len(text.splitlines()), 400, file)
            self.assertEqual([line for line in text.splitlines() if len(line) > 120], [], file)

    def test_functions_are_short(self):
        for file in files():
            for node in ast.walk(tree(file)):
                if isinstance(node, ast.FunctionDef):
                    self.assertLessEqual(node.end_lineno - node.lineno + 1, 40, (file, node.name))

    def test_imports(self):
        for file in files():
            for node in ast.walk(tree(file)):
                self.assertNotIsInstance(node, ast.Import, file)
                if isinstance(node, ast.ImportFrom):
                    self.assertEqual(node.level, 0, file)
                    self.assertIn(node.module.split(".")[0], ("baylines",) + LIBRARY, file)
                    self.assertNotIn("*", [name.name for name in node.names], file)

    def test_python_warns_of_no_line(self):
        for file in files():
            with warnings.catch_warnings():
                warnings.simplefilter("error")
                compile(file.read_text(encoding="utf-8"), str(file), "exec")


class Rules(unittest.TestCase):

    def test_l3_module_level(self):
        for file in files():
            for node in tree(file).body:
                plain = isinstance(node, (ast.Assign, ast.ImportFrom, ast.FunctionDef, ast.ClassDef))
                self.assertTrue(plain or isinstance(node.value, ast.Constant), (file.name, node.lineno))
                if isinstance(node, ast.Assign):
                    self.assertEqual([type(target) for target in node.targets], [ast.Name], file.name)
                    self.assertEqual([one for one in ast.walk(node) if isinstance(one, ast.Call)], [], file.name)

    def test_l4_l5_functions_and_classes(self):
        for place, node in nodes(ast.FunctionDef, ast.ClassDef):
            told = [one.id for one in node.decorator_list if isinstance(one, ast.Name)]
            self.assertIn(told, ([], ["property"]), (place, node.name))
            self.assertEqual(len(told), len(node.decorator_list))
            if isinstance(node, ast.ClassDef):
                self.assertEqual([base.id for base in node.bases if base.id not in ("BayError", "ValueError")], [])
                self.assertTrue(all(isinstance(one, (ast.FunctionDef, ast.Expr)) for one in node.body), node.name)
            elif node.name.startswith("__"):
                self.assertIn(node.name, ("__init__", "__eq__"), place)

    def test_l6_statements(self):
        for place, node in nodes(ast.stmt):
            self.assertIsInstance(node, STATEMENTS, (place, node.lineno))

    def test_l7_expressions(self):
        for place, node in nodes(ast.GeneratorExp, ast.Div, ast.NamedExpr, ast.Await, ast.Yield, ast.YieldFrom):
            self.fail((place, node))
        for place, node in nodes(ast.Constant):
            self.assertNotIsInstance(node.value, (float, complex, bytes), (place, node.lineno))

    def test_l8_builtins(self):
        for file in files():
            top = tree(file)
            known = bound(top) | imported(top) | set(defined(top, ast.FunctionDef, ast.ClassDef)) | set(BUILTINS)
            used = {node.id for node in ast.walk(top) if isinstance(node, ast.Name)}
            self.assertEqual(used - known, set(), file.name)

    def test_l12_l15_l17_names(self):
        for file in files():
            top = tree(file)
            names = bound(top)
            functions = [node.name for node in top.body if isinstance(node, (ast.FunctionDef, ast.ClassDef))]
            level = [node.targets[0].id for node in top.body if isinstance(node, ast.Assign)]
            self.assertEqual((names | set(functions)) & set(dir(builtins)), set(), file.name)
            self.assertEqual(names & (imported(top) | set(defined(top, ast.ClassDef))), set(), file.name)
            self.assertEqual(len(functions + level), len(set(functions + level) - imported(top)), file.name)
            self.assertEqual((names | set(defined(top, ast.FunctionDef))) & set(NEVER), set(), file.name)
            self.assertEqual([name for name in names if name.startswith("_") and name != "_"], [], file.name)

    def test_l16_imports_name_the_file_that_defines(self):
        for place, node in nodes(ast.ImportFrom):
            if node.module.startswith("baylines."):
                top = tree(PACKAGE / (node.module.split(".")[1] + ".py"))
                there = bound(top) | set(defined(top, ast.FunctionDef, ast.ClassDef))
                self.assertLessEqual({name.name for name in node.names}, there, place)
            self.assertEqual([name.asname for name in node.names if name.asname], [], place)

    def test_l17_words(self):
        for place, node in nodes(ast.Name, ast.Attribute, ast.arg, ast.keyword):
            word = getattr(node, "id", getattr(node, "attr", getattr(node, "arg", None)))
            self.assertNotIn(word, NO_WORDS + NEVER, place)

    def test_l18_l26_attributes(self):
        own = {node.name for _, one in nodes(ast.ClassDef) for node in one.body if isinstance(node, ast.FunctionDef)}
        properties = {node.name for _, node in nodes(ast.FunctionDef) if node.decorator_list}
        assigned = {node.attr for _, node in nodes(ast.Attribute) if not isinstance(node.ctx, ast.Load)}
        self.assertEqual(assigned & own, set())
        self.assertEqual((assigned | properties) & set(METHODS), set())
        for place, node in nodes(ast.Attribute):
            self.assertIn(node.attr, assigned | own | set(METHODS), (place, node.lineno))
        for place, node in nodes(ast.Call):
            if isinstance(node.func, ast.Attribute):
                self.assertIn(node.func.attr, (own - properties) | set(METHODS), (place, node.lineno))
                self.assertEqual(node.keywords, [], (place, node.lineno))

    def test_l19_errors(self):
        classes = {node.name for place, node in nodes(ast.ClassDef) if place == "errors.py"}
        for place, node in nodes(ast.ExceptHandler):
            self.assertIn(node.type.id, classes, (place, node.lineno))
        for place, node in nodes(ast.Raise):
            self.assertIn(node.exc.func.id, classes, (place, node.lineno))
            self.assertIsNone(node.cause)

    def test_l20_is(self):
        for place, node in nodes(ast.Compare):
            for sign, side in zip(node.ops, node.comparators):
                if isinstance(sign, (ast.Is, ast.IsNot)):
                    self.assertIsInstance(side, ast.Constant, (place, node.lineno))

    def test_l22_keywords_of_builtins(self):
        for place, node in nodes(ast.Call):
            if isinstance(node.func, ast.Name) and node.func.id in BUILTINS:
                told = {word.arg for word in node.keywords}
                self.assertLessEqual(told, {"sorted": {"key"}, "min": {"key"}, "max": {"default"}}.get(node.func.id, set()))

    def test_l24_sets(self):
        found = [id(node) for _, node in nodes(ast.Set, ast.SetComp)]
        self.assertEqual([node for _, node in nodes(ast.Set)], [])
        held = 0
        for place, node in nodes(ast.Call):
            name = getattr(node.func, "id", None)
            for one in node.args:
                if isinstance(one, ast.SetComp) or isinstance(one, ast.Call) and getattr(one.func, "id", None) == "set":
                    self.assertIn(name, ("len", "sorted"), (place, node.lineno))
                    self.assertEqual(node.keywords, [])
                    held += isinstance(one, ast.SetComp)
        self.assertEqual(held, len(found))

    def test_l27_strings(self):
        for place, node in nodes(ast.Constant):
            if isinstance(node.value, str):
                self.assertNotIn("%", node.value, (place, node.lineno))
                self.assertFalse(node.value.endswith("._"), (place, node.lineno))
        for place, node in nodes(ast.JoinedStr):
            self.assertEqual(node.lineno, node.end_lineno, place)
            for part in ast.walk(node):
                if isinstance(part, ast.FormattedValue):
                    within = [one for one in ast.walk(part.value) if isinstance(one, (ast.JoinedStr, ast.Set, ast.Lambda))]
                    self.assertEqual((within, part.format_spec), ([], None), (place, node.lineno))


if __name__ == "__main__":
    unittest.main()
