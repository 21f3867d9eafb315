"""The plainest rules of LANGUAGE.md, of every file of the package; the rest of them need a reader."""

import ast
import builtins
import pathlib
import re
import unittest

TOP = pathlib.Path(__file__).resolve().parent.parent
PACKAGE = TOP / "picturetide"

LIBRARY = {
    "heapq": {"heappush", "heappop", "heapify", "heapreplace", "heappushpop"},
    "math": {"gcd", "lcm", "isqrt", "comb", "perm", "factorial"},
    "itertools": {
        "product", "combinations", "permutations", "chain", "accumulate", "pairwise", "islice", "zip_longest",
    },
    "collections": {"defaultdict"},
    "__future__": {"annotations"},
}

ALLOWED_BUILTINS = set(
    "len range enumerate zip min max sum abs sorted reversed int str bool list tuple dict set frozenset"
    " isinstance ord repr any all divmod pow getattr hasattr setattr iter next map super property staticmethod"
    " classmethod object Exception ValueError TypeError KeyError IndexError LookupError ZeroDivisionError"
    " ArithmeticError OverflowError RuntimeError NotImplementedError AttributeError StopIteration"
    " NotImplemented True False None bytes float __name__".split()
)

BARRED_NAMES = {"register", "mro", "elements", "open", "input", "law", "version_info", "with_traceback", "add_note"}

BARRED_NODES = (
    ast.Global, ast.AsyncFunctionDef, ast.AsyncFor, ast.AsyncWith, ast.Await, ast.Import, ast.Div, ast.MatMult,
    ast.MatchMapping, ast.TryStar,
)


def sources():
    return sorted(path for path in PACKAGE.rglob("*.py"))


def nodes_of(path):
    return list(ast.walk(ast.parse(path.read_text(encoding="utf-8"))))


def names_of(node):
    """The names that a node brings in or reads."""
    if isinstance(node, ast.Name):
        return [node.id]
    if isinstance(node, (ast.FunctionDef, ast.ClassDef)):
        return [node.name]
    if isinstance(node, ast.arg):
        return [node.arg]
    if isinstance(node, ast.Attribute):
        return [node.attr]
    return []


class Form(unittest.TestCase):
    def assert_none(self, found):
        self.assertEqual(found, [])

    def test_the_folder_holds_python_files_alone(self):
        found = [path for path in PACKAGE.rglob("*") if "__pycache__" not in path.parts and path.is_file()]
        self.assertIn(PACKAGE / "__init__.py", found)
        self.assert_none([str(path) for path in found if not re.fullmatch(r"[a-z0-9_]+\.py", path.name)])

    def test_characters_and_lengths(self):
        for path in sources():
            data = path.read_bytes()
            lines = data.split(b"\n")
            with self.subTest(path=path.name):
                self.assert_none([octet for octet in data if octet != 10 and not 32 <= octet <= 126])
                self.assertLessEqual(len(lines), 400)
                self.assert_none([line for line in lines if len(line) > 120])

    def test_functions_have_at_most_40_lines(self):
        for path in sources():
            functions = [node for node in nodes_of(path) if isinstance(node, ast.FunctionDef)]
            long = [node.name for node in functions if node.end_lineno - node.lineno >= 40]
            with self.subTest(path=path.name):
                self.assert_none(long)

    def test_imports(self):
        for path in sources():
            for node in nodes_of(path):
                if isinstance(node, ast.ImportFrom):
                    with self.subTest(path=path.name, line=node.lineno):
                        self.assertEqual(node.level, 0)
                        self.assert_import(node)

    def assert_import(self, node):
        names = {alias.name for alias in node.names}
        if node.module in LIBRARY:
            self.assertLessEqual(names, LIBRARY[node.module])
            self.assert_none([alias.asname for alias in node.names if alias.asname])
        else:
            file = TOP.joinpath(*node.module.split(".")).with_suffix(".py")
            self.assertEqual(file.parent, PACKAGE)
            body = ast.parse(file.read_text(encoding="utf-8")).body
            defined = {one.name for one in body if isinstance(one, (ast.FunctionDef, ast.ClassDef))}
            targets = [one.targets[0] for one in body if isinstance(one, ast.Assign)]
            self.assertLessEqual(names, defined | {target.id for target in targets})

    def test_module_level(self):
        allowed = (ast.ImportFrom, ast.FunctionDef, ast.ClassDef, ast.Assign, ast.Expr)
        for path in sources():
            body = ast.parse(path.read_text(encoding="utf-8")).body
            with self.subTest(path=path.name):
                self.assert_none([node.lineno for node in body if not isinstance(node, allowed)])
                docstrings = [node for node in body if isinstance(node, ast.Expr)]
                self.assertEqual(docstrings, body[:1])

    def test_statements_and_signs(self):
        for path in sources():
            nodes = nodes_of(path)
            with self.subTest(path=path.name):
                self.assert_none([node for node in nodes if isinstance(node, BARRED_NODES)])
                self.assert_none([node.lineno for node in nodes if getattr(node, "decorator_list", [])
                                  and isinstance(node, ast.ClassDef)])

    def test_values(self):
        for path in sources():
            constants = [node.value for node in nodes_of(path) if isinstance(node, ast.Constant)]
            with self.subTest(path=path.name):
                self.assert_none([value for value in constants if isinstance(value, (float, complex))])
                self.assert_none([value for value in constants if isinstance(value, str) and "%" in value])

    def test_names(self):
        others = set(dir(builtins)) - ALLOWED_BUILTINS
        for path in sources():
            for node in nodes_of(path):
                for name in names_of(node):
                    with self.subTest(path=path.name, line=node.lineno, name=name):
                        self.assertNotIn(name, BARRED_NAMES)
                        self.assertTrue(name.isascii())
                        if isinstance(node, (ast.Name, ast.arg, ast.ClassDef)):
                            self.assertNotIn(name, others)


if __name__ == "__main__":
    unittest.main()
