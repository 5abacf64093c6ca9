"""Some rules of the language that the files of the package keep to, as far as a test can see them."""

import ast
import builtins
import pathlib
import re
import unittest

FOLDER = pathlib.Path(__file__).resolve().parent.parent / "allhelms"
LIBRARY = {"math": {"gcd", "lcm", "isqrt", "comb", "perm", "factorial"}}
BARRED = {"mro", "elements", "open", "input", "law", "version_info", "with_traceback", "add_note", "eval",
          "exec", "compile", "globals", "locals", "vars", "super", "dir", "id", "help"}
LET = {"len", "range", "enumerate", "zip", "min", "max", "sum", "abs", "sorted", "reversed", "int", "str",
       "bool", "bytes", "list", "tuple", "dict", "set", "isinstance", "ord", "repr", "any", "all", "divmod",
       "type", "ValueError", "KeyError", "IndexError", "TypeError", "LookupError", "Exception", "True",
       "False", "None", "property"}


def files():
    return sorted(FOLDER.glob("*.py"))


def trees():
    return [(path, ast.parse(path.read_text(encoding="utf-8"))) for path in files()]


class Language(unittest.TestCase):

    def test_folder(self):
        for path in FOLDER.iterdir():
            if path.name != "__pycache__":
                self.assertRegex(path.name, r"^[a-z0-9_]+\.py$")
        self.assertIn("__init__.py", [path.name for path in FOLDER.iterdir()])

    def test_sizes_and_signs(self):
        for path in files():
            text = path.read_text(encoding="utf-8")
            with self.subTest(file=path.name):
                self.assertLessEqual(len(text.split("\n")), 400)
                self.assertLessEqual(max(len(line) for line in text.split("\n")), 120)
                self.assertIsNone(re.search(r"[^ -~\n]", text))
                self.assertTrue(text.endswith("\n"))

    def test_functions(self):
        for path, tree in trees():
            for node in ast.walk(tree):
                if isinstance(node, ast.FunctionDef):
                    with self.subTest(file=path.name, name=node.name):
                        self.assertLessEqual(node.end_lineno - node.lineno + 1, 40)
                        if not node.name.startswith("__"):
                            self.assertIsNotNone(ast.get_docstring(node))

    def test_imports(self):
        for path, tree in trees():
            imports = [node for node in ast.walk(tree) if isinstance(node, (ast.Import, ast.ImportFrom))]
            for node in imports:
                with self.subTest(file=path.name, line=node.lineno):
                    self.assertIn(node, tree.body)
                    self.assertIsInstance(node, ast.ImportFrom)
                    self.assertEqual(node.level, 0)
                    names = [alias.name for alias in node.names]
                    self.assertEqual([alias.asname for alias in node.names], [None] * len(names))
                    if node.module in LIBRARY:
                        self.assertLessEqual(set(names), LIBRARY[node.module])
                    else:
                        self.check_defined(node.module, names)

    def check_defined(self, module, names):
        """The file that is named defines the names itself, and is one of the package."""
        first, file = module.split(".")
        self.assertEqual(first, "allhelms")
        tree = ast.parse((FOLDER / (file + ".py")).read_text(encoding="utf-8"))
        found = [node.name for node in tree.body if isinstance(node, (ast.FunctionDef, ast.ClassDef))]
        found += [target.id for node in tree.body if isinstance(node, ast.Assign) for target in node.targets]
        self.assertLessEqual(set(names), set(found))

    def test_no_circles(self):
        needs = {}
        for path, tree in trees():
            needs[path.stem] = {node.module.split(".")[1] for node in tree.body
                                if isinstance(node, ast.ImportFrom) and node.module.startswith("allhelms.")}
        while needs:
            free = [name for name in needs if not needs[name] & set(needs)]
            self.assertNotEqual(free, [], needs)
            for name in free:
                del needs[name]

    def test_names(self):
        for path, tree in trees():
            imported = {alias.name for node in tree.body if isinstance(node, ast.ImportFrom)
                        for alias in node.names}
            classes = {node.name for node in tree.body if isinstance(node, ast.ClassDef)}
            bound = [node.arg for node in ast.walk(tree) if isinstance(node, ast.arg)]
            bound += [node.id for node in ast.walk(tree)
                      if isinstance(node, ast.Name) and not isinstance(node.ctx, ast.Load)]
            made = [node.name for node in ast.walk(tree) if isinstance(node, (ast.FunctionDef, ast.ClassDef))]
            with self.subTest(file=path.name):
                self.assertEqual(set(bound) & (imported | classes), set())
                self.assertEqual(set(bound + made) & (set(dir(builtins)) | BARRED), set())
                self.assertEqual(len(made), len(set(made)) + max(0, made.count("__init__") - 1))

    def test_imported_names_are_used(self):
        for path, tree in trees():
            read = {node.id for node in ast.walk(tree) if isinstance(node, ast.Name)}
            imported = {alias.name for node in tree.body if isinstance(node, ast.ImportFrom)
                        for alias in node.names}
            with self.subTest(file=path.name):
                self.assertLessEqual(imported, read)
                self.assertLessEqual(read & set(dir(builtins)), LET)

    def test_what_is_not_let(self):
        barred = (ast.Global, ast.AsyncFunctionDef, ast.Await, ast.Import, ast.Div)
        for path, tree in trees():
            for node in ast.walk(tree):
                with self.subTest(file=path.name, line=getattr(node, "lineno", 0)):
                    self.assertNotIsInstance(node, barred)
                    if isinstance(node, ast.FunctionDef):
                        self.assertLessEqual({getattr(told, "id", None) for told in node.decorator_list},
                                             {"property"})
                    if isinstance(node, ast.BinOp) and isinstance(node.op, ast.Pow):
                        self.assertIsInstance(node.right, ast.Constant)
                    if isinstance(node, ast.Constant):
                        self.assertNotIsInstance(node.value, (float, complex))
                    if isinstance(node, ast.Constant) and isinstance(node.value, str):
                        self.assertNotIn("%", node.value)


if __name__ == "__main__":
    unittest.main()
