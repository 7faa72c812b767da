"""The files of the package keep to the rules of LANGUAGE.md, as far as a short look shows."""

import ast
import builtins
import pathlib
import unittest

FOLDER = pathlib.Path(__file__).resolve().parent.parent / "presshouse"
LIBRARY = {
    "heapq": "heappush heappop heapify heapreplace heappushpop", "math": "gcd lcm isqrt comb perm factorial",
    "itertools": "product combinations permutations chain accumulate pairwise islice zip_longest",
    "collections": "defaultdict", "__future__": "annotations",
}
BUILTINS = """len range enumerate zip min max sum abs sorted reversed int str bool bytes list tuple dict set frozenset
isinstance ord repr any all divmod pow getattr hasattr setattr iter next map super property staticmethod classmethod
Exception ValueError TypeError KeyError IndexError LookupError ZeroDivisionError ArithmeticError OverflowError
RuntimeError NotImplementedError AttributeError StopIteration NotImplemented""".split()
METHODS = """append clear copy count endswith extend find get index insert isalnum isalpha isdigit islower isspace isupper
items join keys ljust lower lstrip partition pop remove replace reverse rfind rjust rpartition rsplit rstrip setdefault
split splitlines startswith strip update upper values zfill bit_length title capitalize swapcase casefold center
expandtabs removeprefix removesuffix rindex isascii isdecimal isnumeric istitle isidentifier isprintable translate
encode decode hex fromhex to_bytes from_bytes add discard""".split()
BARRED_NODES = (ast.Global, ast.AsyncFunctionDef, ast.AsyncFor, ast.AsyncWith, ast.Await, ast.Div, ast.MatMult, ast.Import)
BARRED_NAMES = """register mro elements open input law version_info with_traceback add_note type eval exec compile
globals locals vars dir id exit quit help typing enum chr print""".split()


def package_files():
    return sorted(FOLDER.glob("*.py"))


def nodes_of(path, *kinds):
    return [node for node in ast.walk(ast.parse(path.read_text("ascii"))) if isinstance(node, kinds)]


def own_methods():
    found = set()
    for path in package_files():
        for told in nodes_of(path, ast.ClassDef):
            found.update(node.name for node in told.body if isinstance(node, ast.FunctionDef))
    return found


def binds_of(node):
    if isinstance(node, ast.ImportFrom):
        return [one.name for one in node.names]
    if isinstance(node, (ast.FunctionDef, ast.ClassDef)):
        return [node.name]
    return [one.id for one in getattr(node, "targets", []) if isinstance(one, ast.Name)]


class TestLanguage(unittest.TestCase):
    def each(self, *kinds):
        for path in package_files():
            for node in nodes_of(path, *kinds):
                yield node, f"{path.name}:{getattr(node, 'lineno', 0)}"

    def test_files(self):
        self.assertIn("__init__.py", [path.name for path in package_files()])
        for path in FOLDER.iterdir():
            if path.name != "__pycache__":
                self.assertRegex(path.name, r"^[a-z0-9_]+\.py$")

    def test_characters_and_sizes(self):
        for path in package_files():
            lines = path.read_text("ascii").split("\n")
            self.assertLessEqual(len(lines), 400, path.name)
            for count, line in enumerate(lines, start=1):
                self.assertLessEqual(len(line), 120, f"{path.name}:{count}")
                self.assertTrue(all(" " <= sign <= "~" for sign in line), f"{path.name}:{count}")

    def test_functions_have_at_most_40_lines(self):
        for node, place in self.each(ast.FunctionDef):
            self.assertLessEqual(node.end_lineno - node.lineno + 1, 40, place)

    def test_imports(self):
        for node, place in self.each(ast.ImportFrom):
            names = [one.name for one in node.names]
            self.assertEqual(node.level, 0, place)
            if not node.module.startswith("presshouse."):
                self.assertTrue(set(names) <= set(LIBRARY.get(node.module, "").split()), place)
                self.assertTrue(all(one.asname is None for one in node.names), place)

    def test_barred_statements_and_signs(self):
        for node, place in self.each(*BARRED_NODES):
            self.fail(f"{place}: {type(node).__name__}")

    def test_constants(self):
        for node, place in self.each(ast.Constant):
            self.assertNotIsInstance(node.value, (float, complex), place)
            if isinstance(node.value, str):
                self.assertNotIn("%", node.value, place)
                self.assertTrue(all(sign == "\n" or " " <= sign <= "~" for sign in node.value), place)

    def test_builtins_and_names(self):
        for node, place in self.each(ast.Name):
            self.assertNotIn(node.id, BARRED_NAMES, place)
            self.assertFalse(node.id.startswith("__"), place)
            if hasattr(builtins, node.id):
                self.assertIn(node.id, BUILTINS, place)
                self.assertIsInstance(node.ctx, ast.Load, place)

    def test_parameters_have_no_names_of_builtins(self):
        for node, place in self.each(ast.arg):
            self.assertFalse(hasattr(builtins, node.arg) or node.arg in BARRED_NAMES, place)

    def test_methods(self):
        known = own_methods() | set(METHODS)
        for node, place in self.each(ast.Call):
            if isinstance(node.func, ast.Attribute):
                self.assertIn(node.func.attr, known, place)

    def test_exponents_are_literals(self):
        for node, place in self.each(ast.BinOp):
            if isinstance(node.op, ast.Pow):
                self.assertIsInstance(node.right, ast.Constant, place)

    def test_each_name_of_a_file_is_bound_once(self):
        for path in package_files():
            bound = [name for node in ast.parse(path.read_text("ascii")).body for name in binds_of(node)]
            self.assertEqual(sorted(bound), sorted(set(bound)), path.name)
            for node in nodes_of(path, ast.Name):
                if isinstance(node.ctx, ast.Store) and node.id not in bound:
                    self.assertNotIn(node.id, dir(builtins), f"{path.name}:{node.lineno}")

    def test_no_local_name_is_a_function_or_an_import_of_the_file(self):
        for path in package_files():
            body = ast.parse(path.read_text("ascii")).body
            bound = {name for node in body if not isinstance(node, ast.Assign) for name in binds_of(node)}
            for node in nodes_of(path, ast.Name, ast.arg):
                name = node.arg if isinstance(node, ast.arg) else node.id
                stored = isinstance(node, ast.arg) or not isinstance(node.ctx, ast.Load)
                # The interface calls what `put_on` is handed as it calls the function beside it.
                if (path.name, name) != ("differences.py", "difference"):
                    self.assertFalse(stored and name in bound, f"{path.name}:{node.lineno}: {name}")

    def test_no_generator_expressions_beside_an_own_eq(self):
        self.assertIn("__eq__", own_methods())
        for node, place in self.each(ast.GeneratorExp, ast.Set, ast.SetComp):
            self.fail(f"{place}: {type(node).__name__}")

    def test_what_stands_ahead_of_a_percent_sign_is_plainly_a_number(self):
        for node, place in self.each(ast.BinOp):
            if isinstance(node.op, ast.Mod):
                self.assertIsInstance(node.left, ast.Call, place)
                self.assertIn(node.left.func.id, ("int", "sum", "len"), place)

    def test_errors_are_raised_on_the_spot(self):
        for node, place in self.each(ast.Raise):
            self.assertIsInstance(node.exc, ast.Call, place)
            self.assertIsInstance(node.exc.func, ast.Name, place)


if __name__ == "__main__":
    unittest.main()
