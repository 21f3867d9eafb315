"""The plainest rules of LANGUAGE.md, of every file of the package; the rest of them need a reader."""

import ast
import builtins
import pathlib
import re
import unittest

TOP = pathlib.Path(__file__).resolve().parent.parent
PACKAGE = TOP / "picturetide"

LIBRARY = {
    "heapq": {"heappush", "heappop", "heapify", "heapreplace", "heappushpop"},
    "math": {"gcd", "lcm", "isqrt", "comb", "perm", "factorial"},
    "itertools": {
        "product", "combinations", "permutations", "chain", "accumulate", "pairwise", "islice", "zip_longest",
    },
    "collections": {"defaultdict"},
    "__future__": {"annotations"},
}

ALLOWED_BUILTINS = set(
    "len range enumerate zip min max sum abs sorted reversed int str bool list tuple dict set frozenset"
    " isinstance ord repr any all divmod pow getattr hasattr setattr iter next map super property staticmethod"
    " classmethod object Exception ValueError TypeError KeyError IndexError LookupError ZeroDivisionError"
    " ArithmeticError OverflowError RuntimeError NotImplementedError AttributeError StopIteration"
    " NotImplemented True False None bytes float __name__".split()
)

BARRED_NAMES = {"register", "mro", "elements", "open", "input", "law", "version_info", "with_traceback", "add_note"}

BARRED_NODES = (
    ast.Global, ast.AsyncFunctionDef, ast.AsyncFor, ast.AsyncWith, ast.Await, ast.Import, ast.Div, ast.MatMult,
    ast.MatchMapping, ast.TryStar,
)


BARRED_WORDS = (
    "typing|typing_extensions|enum|Enum|IntEnum|StrEnum|Flag|IntFlag|Generic|Protocol|ABC|ABCMeta|namedtuple"
    "|NamedTuple|TypedDict|TYPE_CHECKING|abstractmethod"
)

METHODS_OF_VALUES = set(
    "append clear copy count endswith extend find get index insert isalnum isalpha isdigit islower isspace isupper"
    " items join keys ljust lower lstrip partition pop remove replace reverse rfind rjust rpartition rsplit rstrip"
    " setdefault split splitlines startswith strip update upper values zfill bit_length sort add discard".split()
)


def sources():
    return sorted(path for path in PACKAGE.rglob("*.py"))


def nodes_of(path):
    return list(ast.walk(ast.parse(path.read_text(encoding="utf-8"))))


def names_of(node):
    """The names that a node brings in or reads."""
    if isinstance(node, ast.Name):
        return [node.id]
    if isinstance(node, (ast.FunctionDef, ast.ClassDef)):
        return [node.name]
    if isinstance(node, ast.arg):
        return [node.arg]
    if isinstance(node, ast.Attribute):
        return [node.attr]
    return []


def functions_of(path):
    return [node for node in nodes_of(path) if isinstance(node, ast.FunctionDef)]


def names_assigned_in(function):
    """The parameters of a function and the names that it assigns."""
    found = {node.arg for node in ast.walk(function) if isinstance(node, ast.arg)}
    names = [node for node in ast.walk(function) if isinstance(node, ast.Name)]
    return found | {node.id for node in names if isinstance(node.ctx, ast.Store)}


def names_imported(path):
    imports = [node for node in nodes_of(path) if isinstance(node, ast.ImportFrom)]
    return [alias.name for node in imports for alias in node.names]


def names_at_module_level(path):
    body = ast.parse(path.read_text(encoding="utf-8")).body
    defined = [one.name for one in body if isinstance(one, (ast.FunctionDef, ast.ClassDef))]
    return defined + [one.targets[0].id for one in body if isinstance(one, ast.Assign)] + names_imported(path)


class Form(unittest.TestCase):
    def assert_none(self, found):
        self.assertEqual(found, [])

    def test_the_folder_holds_python_files_alone(self):
        found = [path for path in PACKAGE.rglob("*") if "__pycache__" not in path.parts and path.is_file()]
        self.assertIn(PACKAGE / "__init__.py", found)
        self.assert_none([str(path) for path in found if not re.fullmatch(r"[a-z0-9_]+\.py", path.name)])

    def test_characters_and_lengths(self):
        for path in sources():
            data = path.read_bytes()
            lines = data.split(b"\n")
            with self.subTest(path=path.name):
                self.assert_none([octet for octet in data if octet != 10 and not 32 <= octet <= 126])
                self.assertLessEqual(len(lines), 400)
                self.assert_none([line for line in lines if len(line) > 120])

    def test_functions_have_at_most_40_lines(self):
        for path in sources():
            functions = [node for node in nodes_of(path) if isinstance(node, ast.FunctionDef)]
            long = [node.name for node in functions if node.end_lineno - node.lineno >= 40]
            with self.subTest(path=path.name):
                self.assert_none(long)

    def test_imports(self):
        for path in sources():
            for node in nodes_of(path):
                if isinstance(node, ast.ImportFrom):
                    with self.subTest(path=path.name, line=node.lineno):
                        self.assertEqual(node.level, 0)
                        self.assert_import(node)

    def assert_import(self, node):
        names = {alias.name for alias in node.names}
        if node.module in LIBRARY:
            self.assertLessEqual(names, LIBRARY[node.module])
            self.assert_none([alias.asname for alias in node.names if alias.asname])
        else:
            file = TOP.joinpath(*node.module.split(".")).with_suffix(".py")
            self.assertEqual(file.parent, PACKAGE)
            body = ast.parse(file.read_text(encoding="utf-8")).body
            defined = {one.name for one in body if isinstance(one, (ast.FunctionDef, ast.ClassDef))}
            targets = [one.targets[0] for one in body if isinstance(one, ast.Assign)]
            self.assertLessEqual(names, defined | {target.id for target in targets})

    def test_module_level(self):
        allowed = (ast.ImportFrom, ast.FunctionDef, ast.ClassDef, ast.Assign, ast.Expr)
        for path in sources():
            body = ast.parse(path.read_text(encoding="utf-8")).body
            with self.subTest(path=path.name):
                self.assert_none([node.lineno for node in body if not isinstance(node, allowed)])
                docstrings = [node for node in body if isinstance(node, ast.Expr)]
                self.assertEqual(docstrings, body[:1])

    def test_statements_and_signs(self):
        for path in sources():
            nodes = nodes_of(path)
            with self.subTest(path=path.name):
                self.assert_none([node for node in nodes if isinstance(node, BARRED_NODES)])
                self.assert_none([node.lineno for node in nodes if getattr(node, "decorator_list", [])
                                  and isinstance(node, ast.ClassDef)])

    def test_values(self):
        for path in sources():
            constants = [node.value for node in nodes_of(path) if isinstance(node, ast.Constant)]
            with self.subTest(path=path.name):
                self.assert_none([value for value in constants if isinstance(value, (float, complex))])
                self.assert_none([value for value in constants if isinstance(value, str) and "%" in value])

    def test_names(self):
        others = set(dir(builtins)) - ALLOWED_BUILTINS
        for path in sources():
            for node in nodes_of(path):
                for name in names_of(node):
                    with self.subTest(path=path.name, line=node.lineno, name=name):
                        self.assertNotIn(name, BARRED_NAMES)
                        self.assertTrue(name.isascii())
                        if isinstance(node, (ast.Name, ast.arg, ast.ClassDef)):
                            self.assertNotIn(name, others)

    def test_each_name_is_bound_once_at_module_level(self):
        for path in sources():
            names = names_at_module_level(path)
            with self.subTest(path=path.name):
                self.assertEqual(len(names), len(set(names)))

    def test_names_of_imports_and_functions_mean_nothing_else(self):
        for path in sources():
            for function in functions_of(path):
                with self.subTest(path=path.name, function=function.name):
                    self.assert_none(sorted(names_assigned_in(function) & set(names_at_module_level(path))))

    def test_each_import_is_used(self):
        for path in sources():
            read = {node.id for node in nodes_of(path) if isinstance(node, ast.Name)}
            with self.subTest(path=path.name):
                self.assert_none([name for name in names_imported(path) if name not in read])

    def test_no_file_imports_from_one_that_imports_from_it(self):
        ahead = {}
        for path in sources():
            imports = [node for node in nodes_of(path) if isinstance(node, ast.ImportFrom)]
            ahead[path.stem] = {node.module.split(".")[-1] for node in imports if node.module not in LIBRARY}
        while ahead:
            free = [name for name, needed in ahead.items() if not needed & set(ahead)]
            self.assertTrue(free, ahead)
            for name in free:
                del ahead[name]

    def test_words(self):
        for path in sources():
            with self.subTest(path=path.name):
                self.assert_none(re.findall(rf"\b(?:{BARRED_WORDS})\b", path.read_text(encoding="utf-8")))

    def test_exponents(self):
        for path in sources():
            powers = [node for node in nodes_of(path) if isinstance(node, ast.BinOp) and isinstance(node.op, ast.Pow)]
            with self.subTest(path=path.name):
                self.assert_none([node.lineno for node in powers if not isinstance(node.right, ast.Constant)])

    def test_is_stands_with_none_true_and_false_alone(self):
        for path in sources():
            for node in nodes_of(path):
                if isinstance(node, ast.Compare) and isinstance(node.ops[0], (ast.Is, ast.IsNot)):
                    with self.subTest(path=path.name, line=node.lineno):
                        self.assertIsInstance(node.comparators[0], ast.Constant)

    def test_methods_that_are_called_and_attributes_that_are_read(self):
        nodes = [node for path in sources() for node in nodes_of(path)]
        attributes = [node for node in nodes if isinstance(node, ast.Attribute)]
        known = {node.attr for node in attributes if isinstance(node.ctx, ast.Store)}
        for node in nodes:
            if isinstance(node, ast.ClassDef):
                known |= {one.name for one in node.body if isinstance(one, ast.FunctionDef)}
        self.assert_none([
            (node.attr, node.lineno) for node in attributes
            if node.attr not in known | METHODS_OF_VALUES and not node.attr.startswith("__")
        ])

    def test_attributes_have_no_names_of_methods_of_values(self):
        free = set("count index title find get join lower upper split strip copy add".split())
        barred = {name for kind in (str, int, list, dict, set, bytes, tuple) for name in dir(kind)} - free
        for path in sources():
            for node in nodes_of(path):
                if isinstance(node, ast.Attribute) and isinstance(node.ctx, ast.Store):
                    with self.subTest(path=path.name, line=node.lineno):
                        self.assertNotIn(node.attr, barred | BARRED_NAMES | {"format", "args", "sort"})

    def test_what_stands_behind_a_star_in_a_call_is_a_name(self):
        for path in sources():
            calls = [node for node in nodes_of(path) if isinstance(node, ast.Call)]
            stars = [one for call in calls for one in call.args if isinstance(one, ast.Starred)]
            with self.subTest(path=path.name):
                self.assert_none([star.lineno for star in stars if not isinstance(star.value, ast.Name)])


if __name__ == "__main__":
    unittest.main()
