"""The rules of LANGUAGE.md that can be told from the code alone, for each file of the package."""

import ast
import builtins
import pathlib
import re
import unittest

PACKAGE = pathlib.Path(__file__).resolve().parent.parent / "loopsdeep"
FILES = {path: path.read_text(encoding="utf-8") for path in sorted(PACKAGE.rglob("*")) if path.is_file()
         and "__pycache__" not in path.parts}
TREES = {path: ast.parse(text) for path, text in FILES.items()}

LIBRARY = {
    "heapq": {"heappush", "heappop", "heapify", "heapreplace", "heappushpop"},
    "math": {"gcd", "lcm", "isqrt", "comb", "perm", "factorial"},
    "itertools": {"product", "combinations", "permutations", "chain", "accumulate", "pairwise", "islice",
                  "zip_longest"},
    "collections": {"defaultdict"},
}
ERRORS = {
    "Exception", "ValueError", "TypeError", "KeyError", "IndexError", "LookupError", "ZeroDivisionError",
    "ArithmeticError", "OverflowError", "RuntimeError", "NotImplementedError", "AttributeError", "StopIteration"}
BUILTINS = ERRORS | set(
    "len range enumerate zip min max sum abs sorted reversed int str bool list tuple dict set isinstance ord repr any "
    "all divmod pow getattr hasattr setattr NotImplemented iter next map property staticmethod classmethod "
    "super".split())
BUILTIN_METHODS = set(
    "append clear copy count endswith extend find get index insert isalnum isalpha isdigit islower isspace isupper "
    "items join keys ljust lower lstrip partition pop remove replace reverse rfind rjust rpartition rsplit rstrip "
    "setdefault split splitlines startswith strip update upper values zfill bit_length add discard __init__".split())
SPECIAL = set("init eq repr str len enter exit call iter lt le gt ge ne add sub mul floordiv mod pow and or xor neg pos "
              "invert abs bool contains getitem setitem".split())
NAMES_NEVER_USED = set(
    "register mro elements open input law version_info with_traceback add_note format format_map eval exec globals "
    "locals vars dir id hash help exit quit os sys typing enum".split())
WORDS_IN_NO_STRING = re.compile(
    r"\b(typing|typing_extensions|enum|Enum|Generic|Protocol|ABC|namedtuple|type)\b|dataclass|overload|contextmanager")


def functions(tree):
    return [node for node in ast.walk(tree) if isinstance(node, ast.FunctionDef)]


def defined_methods():
    return {node.name for tree in TREES.values() for kind in ast.walk(tree) if isinstance(kind, ast.ClassDef)
            for node in kind.body if isinstance(node, ast.FunctionDef)}


def bound_names(tree):
    """All names that a file binds, attributes apart."""
    found = set()
    for node in ast.walk(tree):
        if isinstance(node, ast.Name) and not isinstance(node.ctx, ast.Load):
            found.add(node.id)
        elif isinstance(node, (ast.FunctionDef, ast.ClassDef)):
            found.add(node.name)
        elif isinstance(node, ast.arg):
            found.add(node.arg)
    return found


class FilesTest(unittest.TestCase):

    def test_files(self):
        self.assertTrue((PACKAGE / "__init__.py").is_file())
        for path, text in FILES.items():
            self.assertRegex(path.name, r"^[a-z0-9_]+\.py$")
            self.assertLess(len(text.split("\n")), 400, path)
            self.assertRegex(text, r"\A[ -~\n]*\Z", path)
            for line in text.split("\n"):
                self.assertLessEqual(len(line), 120, path)

    def test_functions_are_short(self):
        for path, tree in TREES.items():
            for function in functions(tree):
                self.assertLessEqual(function.end_lineno - function.lineno + 1, 40, (path, function.name))

    def test_imports(self):
        edges = {}
        for path, tree in TREES.items():
            edges["loopsdeep." + path.stem] = []
            for node in ast.walk(tree):
                self.assertNotIsInstance(node, ast.Import)
                if not isinstance(node, ast.ImportFrom):
                    continue
                self.assertIn(node, tree.body)
                for name in node.names:
                    self.assertIsNone(name.asname)
                    if node.module in LIBRARY:
                        self.assertIn(name.name, LIBRARY[node.module])
                        continue
                    source = PACKAGE / (node.module.split(".")[-1] + ".py")
                    self.assertEqual(node.module, "loopsdeep." + source.stem)
                    names = {item.name for item in TREES[source].body if hasattr(item, "name")}
                    names |= {target.id for item in TREES[source].body if isinstance(item, ast.Assign)
                              for target in item.targets}
                    self.assertIn(name.name, names)
                    edges["loopsdeep." + path.stem].append(node.module)
        while edges:
            free = [name for name, needed in edges.items() if not set(needed) & set(edges)]
            self.assertTrue(free, "files import from each other")
            edges = {name: needed for name, needed in edges.items() if name not in free}

    def test_module_level(self):
        for path, tree in TREES.items():
            for node in tree.body:
                if isinstance(node, ast.Expr):
                    self.assertIsInstance(node.value, ast.Constant)
                else:
                    self.assertIsInstance(node, (ast.ImportFrom, ast.FunctionDef, ast.ClassDef, ast.Assign), path)


class CodeTest(unittest.TestCase):

    def test_nodes(self):
        barred = (ast.Global, ast.AsyncFunctionDef, ast.Await, ast.Div, ast.AsyncFor, ast.AsyncWith)
        for path, tree in TREES.items():
            for node in ast.walk(tree):
                self.assertNotIsInstance(node, barred, path)
                if isinstance(node, ast.ClassDef):
                    self.assertEqual(node.decorator_list, [])
                    self.assertIn(node, tree.body)
                if isinstance(node, ast.FunctionDef):
                    for decorator in node.decorator_list:
                        self.assertIn(ast.unparse(decorator).split(".")[-1], (
                            "property", "setter", "staticmethod", "classmethod"))
                if isinstance(node, ast.Constant):
                    self.assertNotIsInstance(node.value, (float, complex, bytes))

    def test_finally_puts_names_back(self):
        for path, tree in TREES.items():
            for node in ast.walk(tree):
                for statement in node.finalbody if isinstance(node, ast.Try) else ():
                    self.assertIsInstance(statement, ast.Assign, path)
                    self.assertIsInstance(statement.value, (ast.Name, ast.Attribute), path)

    def test_properties_and_attributes_have_other_names(self):
        decorated = {function.name for tree in TREES.values() for function in functions(tree) if function.decorator_list}
        plain = {function.name for tree in TREES.values() for function in functions(tree) if not function.decorator_list}
        stored = {node.attr for tree in TREES.values() for node in ast.walk(tree) if isinstance(node, ast.Attribute)
                  and isinstance(node.ctx, ast.Store)}
        self.assertEqual(decorated & (plain | stored), set())

    def test_double_underscores(self):
        for path, tree in TREES.items():
            for function in functions(tree):
                if function.name.startswith("__"):
                    self.assertIn(function.name.strip("_"), SPECIAL, path)
            for node in ast.walk(tree):
                if isinstance(node, ast.Attribute) and node.attr.startswith("__"):
                    self.assertEqual(node.attr, "__init__", path)

    def test_builtins(self):
        everything = set(dir(builtins))
        for path, tree in TREES.items():
            own = bound_names(tree) | {name.name for node in tree.body if isinstance(node, ast.ImportFrom)
                                       for name in node.names}
            methods = {node.name for kind in tree.body if isinstance(kind, ast.ClassDef) for node in kind.body
                       if isinstance(node, ast.FunctionDef)}
            self.assertEqual((own - methods) & everything, set(), path)
            self.assertEqual(own & (NAMES_NEVER_USED - methods), set(), path)
            for node in ast.walk(tree):
                if isinstance(node, ast.Name) and node.id in everything:
                    self.assertIn(node.id, BUILTINS, path)

    def test_methods_that_are_called(self):
        allowed = BUILTIN_METHODS | defined_methods()
        for path, tree in TREES.items():
            for node in ast.walk(tree):
                if isinstance(node, ast.Call) and isinstance(node.func, ast.Attribute):
                    self.assertIn(node.func.attr, allowed, (path, node.lineno))

    def test_lists_are_given_to_any_and_the_like(self):
        for path, tree in TREES.items():
            for node in ast.walk(tree):
                self.assertNotIsInstance(node, ast.GeneratorExp, path)

    def test_names_of_classes_and_imports_are_kept(self):
        for path, tree in TREES.items():
            taken = {name.name for node in tree.body if isinstance(node, ast.ImportFrom) for name in node.names}
            taken |= {node.name for node in tree.body if isinstance(node, ast.ClassDef)}
            top = {node.name for node in tree.body if isinstance(node, (ast.ClassDef, ast.FunctionDef))}
            self.assertEqual(taken & (bound_names(tree) - top), set(), path)
            bound = [node.name for node in tree.body if isinstance(node, (ast.ClassDef, ast.FunctionDef))]
            bound += [target.id for node in tree.body if isinstance(node, ast.Assign) for target in node.targets]
            self.assertEqual(len(bound), len(set(bound)), path)

    def test_generators_share_no_name(self):
        names = [function.name for tree in TREES.values() for function in functions(tree)]
        for path, tree in TREES.items():
            for function in functions(tree):
                if any(isinstance(node, (ast.Yield, ast.YieldFrom)) for node in ast.walk(function)):
                    self.assertEqual(names.count(function.name), 1, path)

    def test_strings(self):
        for path, tree in TREES.items():
            docs = {id(node.body[0].value) for node in ast.walk(tree) if isinstance(
                node, (ast.Module, ast.ClassDef, ast.FunctionDef)) and node.body and isinstance(node.body[0], ast.Expr)}
            for node in ast.walk(tree):
                if isinstance(node, ast.Constant) and isinstance(node.value, str):
                    self.assertNotIn("%", node.value, path)
                    if id(node) not in docs:
                        self.assertIsNone(WORDS_IN_NO_STRING.search(node.value), (path, node.value))

    def test_attributes_and_methods_have_other_names(self):
        for path, tree in TREES.items():
            for kind in [node for node in tree.body if isinstance(node, ast.ClassDef)]:
                methods = {node.name for node in kind.body if isinstance(node, ast.FunctionDef)}
                attributes = {node.attr for node in ast.walk(kind) if isinstance(node, ast.Attribute)
                              and isinstance(node.ctx, ast.Store)}
                self.assertEqual(methods & attributes, set(), path)


if __name__ == "__main__":
    unittest.main()
