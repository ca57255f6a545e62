"""The form of the files of the package, as far as it can be told by looking at them one by one."""

import ast
import builtins
import pathlib
import unittest

import fewfolds

FOLDER = pathlib.Path(fewfolds.__file__).parent
BUILTINS = set("""len range enumerate zip min max sum abs sorted reversed int str bool list tuple dict set
    isinstance any all divmod map repr Exception""".split())
BARRED = (ast.Global, ast.Yield, ast.YieldFrom, ast.Await, ast.AsyncFunctionDef, ast.Div, ast.GeneratorExp,
          ast.ClassDef, ast.Set, ast.SetComp, ast.NamedExpr, ast.Pow)


class Form(unittest.TestCase):
    def files(self):
        for path in sorted(FOLDER.iterdir()):
            if path.name != "__pycache__":
                yield path, path.read_text(encoding="ascii")

    def nodes(self):
        for path, text in self.files():
            for node in ast.walk(ast.parse(text)):
                yield path, node

    def test_files_and_lines(self):
        for path, text in self.files():
            self.assertRegex(path.name, r"\A(__init__|[a-z][a-z0-9_]*)\.py\Z")
            self.assertTrue(all(" " <= sign <= "~" or sign == "\n" for sign in text), path)
            self.assertLess(len(text.split("\n")), 400, path)
            self.assertLessEqual(max(len(line) for line in text.split("\n")), 120, path)
            self.assertFalse(any(line != line.rstrip() for line in text.split("\n")), path)

    def test_functions(self):
        for path, node in self.nodes():
            if isinstance(node, ast.FunctionDef):
                where = (path, node.name)
                self.assertLessEqual(node.end_lineno - node.lineno + 1, 40, where)
                self.assertEqual(node.decorator_list, [], where)
                self.assertTrue(ast.get_docstring(node) or node.name == "__init__", where)

    def test_imports(self):
        edges = {}
        for path, node in self.nodes():
            self.assertNotIsInstance(node, ast.Import, path)
            if isinstance(node, ast.ImportFrom):
                self.assertTrue(node.level == 0 and node.module.startswith("fewfolds."), (path, node.module))
                self.assertTrue(all(name.asname is None and name.name != "*" for name in node.names))
                edges.setdefault("fewfolds." + path.stem, set()).add(node.module)
        while edges:
            free = [name for name, needs in edges.items() if not needs & set(edges)]
            self.assertTrue(free, "files that import from each other")
            for name in free:
                del edges[name]

    def test_imported_names(self):
        for path, text in self.files():
            tree = ast.parse(text)
            imported = [name.name for node in tree.body if isinstance(node, ast.ImportFrom) for name in node.names]
            read = {node.id for node in ast.walk(tree) if isinstance(node, ast.Name)}
            bound = {node.id for node in ast.walk(tree) if isinstance(node, ast.Name)
                     and isinstance(node.ctx, ast.Store)} | {
                         node.arg for node in ast.walk(tree) if isinstance(node, ast.arg)}
            self.assertEqual(len(imported), len(set(imported)), path)
            self.assertLessEqual(set(imported), read, path)
            self.assertFalse(set(imported) & bound, path)

    def test_statements_and_builtins(self):
        everywhere = set(dir(builtins))
        for path, node in self.nodes():
            if not (isinstance(node, ast.ClassDef) and path.name == "errors.py"):
                self.assertNotIsInstance(node, BARRED, (path, getattr(node, "lineno", None)))
            if isinstance(node, ast.Name) and node.id in everywhere:
                self.assertIn(node.id, BUILTINS, path)
                self.assertIsInstance(node.ctx, ast.Load, path)
            if isinstance(node, (ast.FunctionDef, ast.ClassDef)):
                self.assertNotIn(node.name, everywhere)
            if isinstance(node, ast.arg):
                self.assertNotIn(node.arg, everywhere)
            if isinstance(node, ast.Constant):
                self.assertNotIsInstance(node.value, (float, complex, bytes), path)
                if isinstance(node.value, str):
                    self.assertNotIn("%", node.value)


if __name__ == "__main__":
    unittest.main()
