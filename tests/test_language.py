"""Rules of the language of the program that can be read off its files."""

import ast
import builtins
import pathlib
import unittest

FOLDER = pathlib.Path(__file__).resolve().parent.parent / "blockbooks"
METHODS = {
    "append", "clear", "copy", "count", "endswith", "extend", "find", "get", "index", "insert", "isalnum", "isalpha",
    "isdigit", "islower", "isspace", "isupper", "items", "join", "keys", "ljust", "lower", "lstrip", "partition", "pop",
    "remove", "replace", "reverse", "rfind", "rjust", "rpartition", "rsplit", "rstrip", "setdefault", "split",
    "splitlines", "startswith", "strip", "update", "upper", "values", "zfill", "bit_length", "removeprefix",
    "__init__",
}
BUILTINS = {
    "len", "range", "enumerate", "zip", "min", "max", "sum", "abs", "sorted", "reversed", "int", "str", "bool", "list",
    "tuple", "dict", "set", "isinstance", "ord", "repr", "any", "all", "divmod",
}


def texts():
    return {path.name: path.read_bytes().decode("ascii") for path in sorted(FOLDER.glob("*.py"))}


def nodes(kind):
    for name, text in texts().items():
        for node in ast.walk(ast.parse(text)):
            if isinstance(node, kind):
                yield name, node


def own_imports():
    return [(name, node) for name, node in nodes(ast.ImportFrom) if node.module.startswith("blockbooks.")]


class Language(unittest.TestCase):

    def test_files(self):
        found = [path.name for path in FOLDER.iterdir() if path.name != "__pycache__"]
        self.assertEqual(sorted(found), sorted(texts()))
        self.assertIn("__init__.py", found)

    def test_sizes(self):
        for name, text in texts().items():
            lines = text.splitlines()
            self.assertLessEqual(len(lines), 399, name)
            self.assertLessEqual(max(map(len, lines)), 120, name)
            self.assertTrue(all(" " <= sign <= "~" or sign == "\n" for sign in text), name)
        for name, node in nodes(ast.FunctionDef):
            self.assertLessEqual(node.end_lineno - node.lineno + 1, 40, (name, node.name))

    def test_imports(self):
        self.assertEqual(list(nodes(ast.Import)), [])
        for name, node in nodes(ast.ImportFrom):
            self.assertEqual(node.level, 0, name)
            self.assertTrue(all(item.asname is None and item.name != "*" for item in node.names), name)
            if node.module == "math":
                self.assertEqual([item.name for item in node.names], ["gcd"], name)
            else:
                self.assertTrue(node.module.startswith("blockbooks."), (name, node.module))

    def test_no_file_imports_itself_through_others(self):
        above = {name: [] for name in texts()}
        for name, node in own_imports():
            above[name].append(node.module.partition(".")[2] + ".py")
        done = []
        while len(done) < len(above):
            ready = [name for name in above if name not in done and all(other in done for other in above[name])]
            self.assertTrue(ready, "files import from each other")
            done += ready

    def test_statements_and_values_that_are_left_out(self):
        kinds = (ast.AsyncFunctionDef, ast.AsyncFor, ast.AsyncWith, ast.Await, ast.Global, ast.Pow, ast.Div, ast.Set)
        self.assertEqual([(name, node.lineno) for name, node in nodes(kinds) if hasattr(node, "lineno")], [])
        self.assertEqual(len(list(nodes((ast.Pow, ast.Div)))), 0)
        for name, node in nodes(ast.Constant):
            self.assertNotIsInstance(node.value, (float, complex), name)

    def test_only_properties_are_decorated(self):
        for name, node in nodes((ast.FunctionDef, ast.ClassDef)):
            for item in node.decorator_list:
                self.assertEqual(ast.unparse(item), "property", (name, node.name))

    def test_calls(self):
        own = {node.name for _, node in nodes((ast.FunctionDef, ast.ClassDef))} | {"gcd", "onward", "worths_of", "super"}
        for name, node in nodes(ast.Call):
            called = node.func.id if isinstance(node.func, ast.Name) else node.func.attr
            allowed = BUILTINS if isinstance(node.func, ast.Name) else METHODS
            self.assertTrue(called in own or called in allowed, (name, node.lineno, called))

    def test_names_are_imported_from_where_they_are_defined(self):
        defined = {}
        for name, tree in [(name, ast.parse(text)) for name, text in texts().items()]:
            for node in tree.body:
                if isinstance(node, (ast.FunctionDef, ast.ClassDef)):
                    defined.setdefault(name, []).append(node.name)
        for name, node in own_imports():
            for item in node.names:
                self.assertIn(item.name, defined[node.module.partition(".")[2] + ".py"], name)

    def test_no_variable_has_the_name_of_an_import_or_a_class_or_a_builtin(self):
        for name, text in texts().items():
            tree = ast.parse(text)
            taken = {item.name for node in ast.walk(tree) if isinstance(node, ast.ImportFrom) for item in node.names}
            taken |= {node.name for node in tree.body if isinstance(node, ast.ClassDef)} | set(dir(builtins))
            for node in ast.walk(tree):
                if isinstance(node, ast.Name) and isinstance(node.ctx, ast.Store):
                    self.assertNotIn(node.id, taken, (name, node.lineno))
                if isinstance(node, ast.arg):
                    self.assertNotIn(node.arg, taken, (name, node.lineno))

    def test_behind_a_star_of_a_call_stands_a_name(self):
        for name, node in nodes(ast.Call):
            for told in node.args:
                if isinstance(told, ast.Starred):
                    self.assertIsInstance(told.value, (ast.Name, ast.Attribute), (name, node.lineno))
            self.assertNotIn(None, [told.arg for told in node.keywords], (name, node.lineno))

    def test_keywords_of_builtins(self):
        for name, node in nodes(ast.Call):
            if isinstance(node.func, ast.Name) and node.func.id in BUILTINS:
                found = [told.arg for told in node.keywords]
                self.assertTrue(not found or (node.func.id == "sorted" and found == ["key"]), (name, node.lineno))

    def test_what_is_iterated_at_once(self):
        # What goes over something without being a list stands at once where it is gone over, or is kept as a range.
        allowed = (ast.For, ast.comprehension)
        for name, text in texts().items():
            tree = ast.parse(text)
            above = {child: node for node in ast.walk(tree) for child in ast.iter_child_nodes(node)}
            for node in ast.walk(tree):
                if isinstance(node, ast.Call) and isinstance(node.func, ast.Name) and node.func.id in ("zip", "enumerate", "reversed"):
                    self.assertIsInstance(above[node], allowed, (name, node.lineno))

    def test_errors_are_made_where_they_are_raised_and_own_ones_are_caught(self):
        own = {node.name for _, node in nodes(ast.ClassDef)}
        for name, node in nodes(ast.Raise):
            self.assertTrue(isinstance(node.exc, ast.Call) and node.exc.func.id in own, (name, node.lineno))
        for name, node in nodes(ast.ExceptHandler):
            self.assertIn(node.type.id, own, (name, node.lineno))

    def test_generators_stand_where_they_are_gone_over(self):
        made = {node.name for _, node in nodes(ast.FunctionDef) if any(isinstance(part, ast.Yield) for part in ast.walk(node))}
        for name, text in texts().items():
            tree = ast.parse(text)
            above = {child: node for node in ast.walk(tree) for child in ast.iter_child_nodes(node)}
            for node in ast.walk(tree):
                if isinstance(node, ast.Name) and node.id in made:
                    self.assertIsInstance(above[node], ast.Call, (name, node.lineno))
                    self.assertIsInstance(above[above[node]], (ast.For, ast.comprehension), (name, node.lineno))

    def test_texts_within_files(self):
        for name, node in nodes(ast.JoinedStr):
            inner = [part for some in node.values if isinstance(some, ast.FormattedValue) for part in ast.walk(some.value)]
            self.assertFalse([part for part in inner if isinstance(part, ast.Constant)], (name, node.lineno))
        for name, node in nodes(ast.Constant):
            if isinstance(node.value, str):
                self.assertNotIn("%", node.value, (name, node.lineno))
                self.assertNotIn("__", node.value, (name, node.lineno))

    def test_no_name_is_a_method_and_an_attribute(self):
        methods = {node.name for _, kind in nodes(ast.ClassDef) for node in kind.body if isinstance(node, ast.FunctionDef)}
        for name, node in nodes(ast.Attribute):
            if isinstance(node.ctx, ast.Store):
                self.assertNotIn(node.attr, methods, (name, node.lineno))

    def test_interface_stands_where_it_is_listed(self):
        listed = {
            "books": ["Book"], "tables": ["Table", "table_named"], "areas": ["total_at", "trace_at", "area_sum"],
            "forms": ["plain", "rank_of", "nodes_of"], "parting": ["parting", "are_alike", "classes"],
            "relations": ["relations", "mixture"], "ends": ["last_level", "alike_from"],
            "identities": ["side_table", "identity_parts", "identity_of", "inverse_among"],
            "joins": ["added", "scaled", "product", "entrywise", "transposed", "block_of", "framed"],
            "rests": ["first_rest", "rests_of", "count_rest"],
            "levels": ["total_rule", "trace_rule", "far_total", "far_trace"], "shelves": ["Shelf", "SmallShelf"],
            "texts": ["show_book", "show_table"], "readings": ["read_book", "read_table"],
        }
        for name, wanted in listed.items():
            tree = ast.parse(texts()[name + ".py"])
            found = [node.name for node in tree.body if isinstance(node, (ast.FunctionDef, ast.ClassDef))]
            self.assertLessEqual(set(wanted), set(found))

    def test_builtins_take_lists_and_no_generator_expressions(self):
        # A class has an __eq__, so any, all, sum and the like take a list.
        self.assertEqual([(name, node.lineno) for name, node in nodes((ast.GeneratorExp, ast.SetComp))], [])


if __name__ == "__main__":
    unittest.main()
