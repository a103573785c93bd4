"""Rules of the language of the program that can be read off its files."""

import ast
import builtins
import pathlib
import unittest

FOLDER = pathlib.Path(__file__).resolve().parent.parent / "blockbooks"
METHODS = {
    "append", "clear", "copy", "count", "endswith", "extend", "find", "get", "index", "insert", "isalnum", "isalpha",
    "isdigit", "islower", "isspace", "isupper", "items", "join", "keys", "ljust", "lower", "lstrip", "partition", "pop",
    "remove", "replace", "reverse", "rfind", "rjust", "rpartition", "rsplit", "rstrip", "setdefault", "split",
    "splitlines", "startswith", "strip", "update", "upper", "values", "zfill", "bit_length", "removeprefix",
    "__init__",
}
BUILTINS = {
    "len", "range", "enumerate", "zip", "min", "max", "sum", "abs", "sorted", "reversed", "int", "str", "bool", "list",
    "tuple", "dict", "set", "isinstance", "ord", "repr", "any", "all", "divmod",
}


def texts():
    return {path.name: path.read_bytes().decode("ascii") for path in sorted(FOLDER.glob("*.py"))}


def nodes(kind):
    for name, text in texts().items():
        for node in ast.walk(ast.parse(text)):
            if isinstance(node, kind):
                yield name, node


def own_imports():
    return [(name, node) for name, node in nodes(ast.ImportFrom) if node.module.startswith("blockbooks.")]


class Language(unittest.TestCase):

    def test_files(self):
        found = [path.name for path in FOLDER.iterdir() if path.name != "__pycache__"]
        self.assertEqual(sorted(found), sorted(texts()))
        self.assertIn("__init__.py", found)

    def test_sizes(self):
        for name, text in texts().items():
            lines = text.splitlines()
            self.assertLessEqual(len(lines), 399, name)
            self.assertLessEqual(max(map(len, lines)), 120, name)
            self.assertTrue(all(" " <= sign <= "~" or sign == "\n" for sign in text), name)
        for name, node in nodes(ast.FunctionDef):
            self.assertLessEqual(node.end_lineno - node.lineno + 1, 40, (name, node.name))

    def test_imports(self):
        self.assertEqual(list(nodes(ast.Import)), [])
        for name, node in nodes(ast.ImportFrom):
            self.assertEqual(node.level, 0, name)
            self.assertTrue(all(item.asname is None and item.name != "*" for item in node.names), name)
            if node.module == "math":
                self.assertEqual([item.name for item in node.names], ["gcd"], name)
            else:
                self.assertTrue(node.module.startswith("blockbooks."), (name, node.module))

    def test_no_file_imports_itself_through_others(self):
        above = {name: [] for name in texts()}
        for name, node in own_imports():
            above[name].append(node.module.partition(".")[2] + ".py")
        done = []
        while len(done) < len(above):
            ready = [name for name in above if name not in done and all(other in done for other in above[name])]
            self.assertTrue(ready, "files import from each other")
            done += ready

    def test_statements_and_values_that_are_left_out(self):
        kinds = (ast.AsyncFunctionDef, ast.AsyncFor, ast.AsyncWith, ast.Await, ast.Global, ast.Pow, ast.Div, ast.Set)
        self.assertEqual([(name, node.lineno) for name, node in nodes(kinds) if hasattr(node, "lineno")], [])
        self.assertEqual(len(list(nodes((ast.Pow, ast.Div)))), 0)
        for name, node in nodes(ast.Constant):
            self.assertNotIsInstance(node.value, (float, complex), name)

    def test_only_properties_are_decorated(self):
        for name, node in nodes((ast.FunctionDef, ast.ClassDef)):
            for item in node.decorator_list:
                self.assertEqual(ast.unparse(item), "property", (name, node.name))

    def test_calls(self):
        own = {node.name for _, node in nodes((ast.FunctionDef, ast.ClassDef))} | {"gcd", "onward", "worths_of", "super"}
        for name, node in nodes(ast.Call):
            called = node.func.id if isinstance(node.func, ast.Name) else node.func.attr
            allowed = BUILTINS if isinstance(node.func, ast.Name) else METHODS
            self.assertTrue(called in own or called in allowed, (name, node.lineno, called))

    def test_names_are_imported_from_where_they_are_defined(self):
        defined = {}
        for name, tree in [(name, ast.parse(text)) for name, text in texts().items()]:
            for node in tree.body:
                if isinstance(node, (ast.FunctionDef, ast.ClassDef)):
                    defined.setdefault(name, []).append(node.name)
        for name, node in own_imports():
            for item in node.names:
                self.assertIn(item.name, defined[node.module.partition(".")[2] + ".py"], name)

    def test_no_variable_has_the_name_of_an_import_or_a_class_or_a_builtin(self):
        for name, text in texts().items():
            tree = ast.parse(text)
            taken = {item.name for node in ast.walk(tree) if isinstance(node, ast.ImportFrom) for item in node.names}
            taken |= {node.name for node in tree.body if isinstance(node, ast.ClassDef)} | set(dir(builtins))
            for node in ast.walk(tree):
                if isinstance(node, ast.Name) and isinstance(node.ctx, ast.Store):
                    self.assertNotIn(node.id, taken, (name, node.lineno))
                if isinstance(node, ast.arg):
                    self.assertNotIn(node.arg, taken, (name, node.lineno))

    def test_builtins_take_lists_and_no_generator_expressions(self):
        # A class has an __eq__, so any, all, sum and the like take a list.
        self.assertEqual([(name, node.lineno) for name, node in nodes((ast.GeneratorExp, ast.SetComp))], [])


if __name__ == "__main__":
    unittest.main()
