"""The rules of the language that can be counted or looked up in the package's files."""

import ast
import builtins
import pathlib
import unittest
import warnings

FOLDER = pathlib.Path(__file__).resolve().parent.parent / "rateplan"

LIBRARY = {
    "heapq": {"heappush", "heappop", "heapify", "heapreplace", "heappushpop"},
    "math": {"gcd", "lcm", "isqrt", "comb", "perm", "factorial"},
    "itertools": {"product", "combinations", "permutations", "chain", "accumulate", "pairwise", "islice", "zip_longest"},
    "collections": {"defaultdict"},
}

BUILTINS = set("""
    len range enumerate zip min max sum abs sorted reversed int str bool list tuple dict set isinstance ord repr
    any all divmod pow getattr hasattr setattr iter next map super property staticmethod classmethod
    Exception ValueError TypeError KeyError IndexError LookupError ZeroDivisionError ArithmeticError OverflowError
    RuntimeError NotImplementedError AttributeError StopIteration NotImplemented
""".split())

METHODS = set("""
    append clear copy count endswith extend find get index insert isalnum isalpha isdigit islower isspace isupper
    items join keys ljust lower lstrip partition pop remove replace reverse rfind rjust rpartition rsplit rstrip
    setdefault split splitlines startswith strip update upper values zfill bit_length add discard sort title
    capitalize swapcase casefold center expandtabs removeprefix removesuffix rindex isascii isdecimal isnumeric
    istitle isidentifier isprintable translate format maketrans
""".split())

BARRED = (ast.Global, ast.AsyncFunctionDef, ast.AsyncFor, ast.AsyncWith, ast.Await, ast.Div, ast.MatMult)


def files():
    return sorted(FOLDER.rglob("*.py"))


def trees():
    return [(path, ast.parse(path.read_text(encoding="ascii"))) for path in files()]


def nodes(kind):
    return [(path.name, node) for path, tree in trees() for node in ast.walk(tree) if isinstance(node, kind)]


def bound_names(tree):
    """Each name that a file binds anywhere, but the names of attributes."""
    names = set()
    for node in ast.walk(tree):
        if isinstance(node, (ast.FunctionDef, ast.ClassDef)):
            names.add(node.name)
        elif isinstance(node, ast.arg):
            names.add(node.arg)
        elif isinstance(node, ast.alias):
            names.add(node.asname or node.name)
        elif isinstance(node, ast.Name) and not isinstance(node.ctx, ast.Load):
            names.add(node.id)
        elif isinstance(node, ast.ExceptHandler) and node.name:
            names.add(node.name)
        elif isinstance(node, (ast.MatchAs, ast.MatchStar)) and node.name:
            names.add(node.name)
    return names


class LanguageTest(unittest.TestCase):

    def test_the_folder_holds_files_of_python_alone(self):
        self.assertIn(FOLDER / "__init__.py", files())
        for path in FOLDER.rglob("*"):
            if "__pycache__" not in path.parts:
                self.assertTrue(path.suffix == ".py" or path.is_dir(), path)

    def test_signs_and_sizes(self):
        for path in files():
            text = path.read_bytes().decode("ascii")
            self.assertTrue(all(sign == "\n" or " " <= sign <= "~" for sign in text), path)
            self.assertTrue(text.endswith("\n"), path)
            self.assertLessEqual(text.count("\n"), 399, path)
            self.assertLessEqual(max(map(len, text.split("\n"))), 120, path)
        for name, node in nodes(ast.FunctionDef):
            self.assertLessEqual(node.end_lineno - node.lineno + 1, 40, (name, node.name))

    def test_python_warns_of_no_line(self):
        with warnings.catch_warnings():
            warnings.simplefilter("error")
            for path in files():
                compile(path.read_text(encoding="ascii"), str(path), "exec")

    def test_imports(self):
        self.assertEqual([name for name, _ in nodes(ast.Import)], [])
        for name, node in nodes(ast.ImportFrom):
            self.assertEqual(node.level, 0, name)
            for alias in node.names:
                if node.module.startswith("rateplan."):
                    home = FOLDER.parent.joinpath(*node.module.split(".")).with_suffix(".py")
                    tree = ast.parse(home.read_text(encoding="ascii"))
                    made = {row.name for row in tree.body if isinstance(row, (ast.FunctionDef, ast.ClassDef))}
                    made |= {row.targets[0].id for row in tree.body if isinstance(row, ast.Assign)}
                    self.assertIn(alias.name, made, (name, node.module))
                else:
                    self.assertIn(alias.name, LIBRARY.get(node.module, ()), (name, node.module))

    def test_no_two_files_import_from_each_other(self):
        above = {}
        for path, tree in trees():
            above["rateplan." + path.stem] = {row.module for row in tree.body if isinstance(row, ast.ImportFrom)}
        left = dict(above)
        while left:
            free = [name for name in left if not left[name] & set(left)]
            self.assertNotEqual(free, [], "files import in a ring")
            left = {name: left[name] for name in left if name not in free}

    def test_names_are_bound_or_builtins_that_are_let(self):
        for path, tree in trees():
            bound = bound_names(tree)
            self.assertEqual(bound & set(dir(builtins)), set(), path)
            for node in ast.walk(tree):
                if isinstance(node, ast.Name):
                    self.assertIn(node.id, bound | BUILTINS, (path.name, node.lineno))

    def test_methods_are_own_or_let(self):
        own = {node.name for _, node in nodes(ast.FunctionDef)}
        for name, node in nodes(ast.Call):
            if isinstance(node.func, ast.Attribute) and node.func.attr != "__init__":
                self.assertIn(node.func.attr, own | METHODS, (name, node.lineno))

    def test_no_barred_statements_signs_or_numbers(self):
        self.assertEqual([(name, node) for name, node in nodes(BARRED)], [])
        for name, node in nodes(ast.Constant):
            self.assertNotIsInstance(node.value, (float, complex), (name, node.lineno))
            if isinstance(node.value, str):
                self.assertNotIn(chr(37), node.value, (name, node.lineno))

    def test_equal_and_len_have_their_forms(self):
        for name, node in nodes(ast.FunctionDef):
            if node.name == "__len__":
                for row in ast.walk(node):
                    if isinstance(row, ast.Return):
                        self.assertEqual(row.value.func.id, "len", (name, row.lineno))
            if node.name in ("__len__", "__str__", "__repr__"):
                self.assertIsInstance(node.body[-1], ast.Return, (name, node.name))


if __name__ == "__main__":
    unittest.main()
