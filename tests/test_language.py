"""The rules of the language that can be counted off: files, sizes, characters, imports and names."""

import ast
import builtins
import pathlib
import re
import unittest

FOLDER = pathlib.Path(__file__).resolve().parent.parent / "filterorders"
FILES = sorted(FOLDER.rglob("*.py"))
LIBRARY = {
    "math": {"gcd", "lcm", "isqrt", "comb", "perm", "factorial"},
    "itertools": set("product combinations permutations chain accumulate pairwise islice zip_longest".split()),
    "heapq": set("heappush heappop heapify heapreplace heappushpop".split()),
    "collections": {"defaultdict"},
    "__future__": {"annotations"},
}
ALLOWED_BUILTINS = set(
    "len range enumerate zip min max sum abs sorted reversed int str bool bytes list tuple dict set frozenset isinstance"
    " ord repr any all divmod pow getattr hasattr setattr iter next map super property staticmethod classmethod object"
    " Exception ValueError TypeError KeyError IndexError LookupError ZeroDivisionError ArithmeticError OverflowError"
    " RuntimeError NotImplementedError AttributeError StopIteration NotImplemented".split()
)
BARRED_WORDS = set("typing enum Enum Flag Generic Protocol ABC namedtuple dataclass overload contextmanager _wall".split())


def functions(tree):
    return [node for node in ast.walk(tree) if isinstance(node, (ast.FunctionDef, ast.AsyncFunctionDef))]


def bound_names(tree):
    found = [node.id for node in ast.walk(tree) if isinstance(node, ast.Name) and isinstance(node.ctx, ast.Store)]
    found += [node.arg for node in ast.walk(tree) if isinstance(node, ast.arg)]
    found += [node.name for node in ast.walk(tree) if isinstance(node, (ast.FunctionDef, ast.ClassDef))]
    return found


def bound_at_module_level(body):
    for item in body:
        if isinstance(item, ast.Assign):
            yield item.targets[0].id
        elif hasattr(item, "name"):
            yield item.name


def imported_files(path):
    tree = ast.parse(path.read_text(encoding="utf-8"))
    modules = [node.module for node in tree.body if isinstance(node, ast.ImportFrom) and node.module not in LIBRARY]
    return {FOLDER / (module.removeprefix("filterorders.") + ".py") for module in modules}


class LanguageTest(unittest.TestCase):
    def each(self):
        for path in FILES:
            text = path.read_text(encoding="utf-8")
            with self.subTest(path.name):
                yield path, text, ast.parse(text)

    def test_the_folder_holds_only_python_files(self):
        self.assertIn(FOLDER / "__init__.py", FILES)
        others = [path for path in FOLDER.rglob("*") if path.is_file() and "__pycache__" not in path.parts]
        self.assertEqual(sorted(others), FILES)

    def test_sizes(self):
        for _, text, tree in self.each():
            self.assertLessEqual(len(text.splitlines()), 399)
            self.assertLessEqual(max([len(line) for line in text.splitlines()]), 120)
            for function in functions(tree):
                self.assertLessEqual(function.end_lineno - function.lineno + 1, 40, function.name)

    def test_characters(self):
        for _, text, tree in self.each():
            self.assertEqual([sign for sign in text if sign != "\n" and not " " <= sign <= "~"], [])
            strings = [node.value for node in ast.walk(tree) if isinstance(node, ast.Constant)]
            self.assertEqual([word for word in strings if isinstance(word, str) and "%" in word], [])
            self.assertEqual([word for word in strings if isinstance(word, float)], [])
            self.assertEqual(set(re.findall(r"\w+", text)) & BARRED_WORDS, set())

    def test_imports(self):
        for path, _, tree in self.each():
            for node in ast.walk(tree):
                self.assertNotIsInstance(node, ast.Import)
                if isinstance(node, ast.ImportFrom):
                    names = {alias.name for alias in node.names}
                    self.assertIn(node, tree.body)
                    self.assertEqual([alias for alias in node.names if alias.asname], [])
                    if node.module in LIBRARY:
                        self.assertLessEqual(names, LIBRARY[node.module])
                    else:
                        source = FOLDER / (node.module.removeprefix("filterorders.") + ".py")
                        defined = ast.parse(source.read_text(encoding="utf-8")).body
                        self.assertLessEqual(names, set(bound_at_module_level(defined)))

    def test_no_two_files_import_from_each_other(self):
        reached = {path: imported_files(path) for path in FILES}
        for _ in FILES:
            reached = {path: files.union(*[reached[file] for file in files]) for path, files in reached.items()}
        self.assertEqual([path for path in FILES if path in reached[path]], [])

    def test_each_name_is_bound_once(self):
        for _, _, tree in self.each():
            names = list(bound_at_module_level(tree.body))
            names += [alias.name for node in tree.body if isinstance(node, ast.ImportFrom) for alias in node.names]
            self.assertEqual(len(names), len(set(names)))

    def test_what_classes_that_compare_bar(self):
        for _, _, tree in self.each():
            for node in ast.walk(tree):
                self.assertNotIsInstance(node, (ast.GeneratorExp, ast.Yield, ast.YieldFrom))
                if isinstance(node, ast.Call) and isinstance(node.func, ast.Attribute):
                    self.assertNotEqual(node.func.attr, "sort")

    def test_no_name_hides_a_builtin_or_an_import(self):
        for _, _, tree in self.each():
            imports = {alias.name for node in tree.body if isinstance(node, ast.ImportFrom) for alias in node.names}
            methods = {
                function.name for node in tree.body if isinstance(node, ast.ClassDef) for function in functions(node)
            }
            names = set(bound_names(tree)) - methods
            self.assertEqual(names & (set(dir(builtins)) | imports), set())

    def test_builtins_and_statements(self):
        barred = (ast.Global, ast.Div, ast.AsyncFunctionDef, ast.Await, ast.AsyncFor, ast.AsyncWith)
        for _, _, tree in self.each():
            for node in ast.walk(tree):
                self.assertNotIsInstance(node, barred)
                if isinstance(node, ast.Name) and node.id in dir(builtins):
                    self.assertIn(node.id, ALLOWED_BUILTINS)


if __name__ == "__main__":
    unittest.main()
