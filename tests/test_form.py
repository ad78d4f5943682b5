"""The form of the package's files, as far as it can be counted."""

import ast
import builtins
import pathlib
import unittest

import lanelots

FOLDER = pathlib.Path(lanelots.__file__).parent
LIBRARY = {
    "heapq": {"heappush", "heappop", "heapify", "heapreplace", "heappushpop"},
    "math": {"gcd", "lcm", "isqrt", "comb", "perm", "factorial"},
    "itertools": {"product", "combinations", "permutations", "chain", "accumulate", "pairwise", "islice", "zip_longest"},
    "collections": {"defaultdict", "deque"},
}
BUILTINS = set("""
    len range enumerate zip min max sum abs sorted reversed int str bool bytes list tuple dict set frozenset isinstance
    ord repr any all divmod pow getattr hasattr setattr iter next map type super property staticmethod classmethod
    Exception ValueError TypeError KeyError IndexError LookupError ZeroDivisionError ArithmeticError OverflowError
    RuntimeError NotImplementedError AttributeError StopIteration NotImplemented
""".split())


def files():
    return sorted(path for path in FOLDER.iterdir() if path.name != "__pycache__")


def trees():
    return [(path.name, ast.parse(path.read_text("utf-8"))) for path in files()]


def top_names(tree):
    """The names that a file defines itself."""
    names = set()
    for node in tree.body:
        if isinstance(node, (ast.FunctionDef, ast.ClassDef)):
            names.add(node.name)
        elif isinstance(node, ast.Assign):
            names.update(target.id for target in node.targets)
    return names


class Form(unittest.TestCase):
    def test_the_folder_has_only_plain_files(self):
        for path in files():
            self.assertRegex(path.name, r"^[a-z_][a-z0-9_]*\.py$")

    def test_characters_and_sizes(self):
        for path in files():
            text = path.read_text("utf-8")
            self.assertFalse([sign for sign in text if sign != "\n" and not " " <= sign <= "~"], path)
            lines = text.splitlines()
            self.assertLessEqual(len(lines), 399, path)
            self.assertLessEqual(max([len(line) for line in lines]), 120, path)

    def test_functions_have_at_most_forty_lines(self):
        for name, tree in trees():
            for node in ast.walk(tree):
                if isinstance(node, ast.FunctionDef):
                    self.assertLessEqual(node.end_lineno - node.lineno + 1, 40, (name, node.name))

    def test_imports_name_the_file_that_defines(self):
        defined = {f"lanelots.{name[:-3]}": top_names(tree) for name, tree in trees()}
        for name, tree in trees():
            for node in ast.walk(tree):
                self.assertNotIsInstance(node, ast.Import, name)
                if isinstance(node, ast.ImportFrom):
                    self.assertEqual(node.level, 0, name)
                    known = LIBRARY.get(node.module, set()) | defined.get(node.module, set())
                    self.assertFalse([alias.name for alias in node.names if alias.name not in known], name)

    def test_all_imports_are_used_and_no_local_name_hides_one(self):
        for name, tree in trees():
            imported = {alias.name for node in tree.body if isinstance(node, ast.ImportFrom) for alias in node.names}
            names = [node for node in ast.walk(tree) if isinstance(node, ast.Name)]
            self.assertFalse(imported - {node.id for node in names}, name)
            local = {node.id for node in names if isinstance(node.ctx, ast.Store)}
            local.update(node.arg for node in ast.walk(tree) if isinstance(node, ast.arg))
            self.assertFalse(local & imported, name)

    def test_only_the_builtins_that_are_let(self):
        for name, tree in trees():
            used = {node.id for node in ast.walk(tree) if isinstance(node, ast.Name)}
            self.assertFalse({word for word in used if hasattr(builtins, word)} - BUILTINS, name)

    def test_no_floats_and_no_percent_signs(self):
        for name, tree in trees():
            for node in ast.walk(tree):
                self.assertNotIsInstance(node, ast.Div, name)
                if isinstance(node, ast.Constant):
                    self.assertNotIsInstance(node.value, float, name)
                    if isinstance(node.value, str):
                        self.assertNotIn("%", node.value, name)

    def test_no_generators_and_no_identity_but_with_plain_names(self):
        for name, tree in trees():
            for node in ast.walk(tree):
                self.assertNotIsInstance(node, (ast.GeneratorExp, ast.Yield, ast.YieldFrom, ast.Global), name)
                if isinstance(node, ast.Compare):
                    pairs = zip(node.ops, node.comparators)
                    asked = [other for sign, other in pairs if isinstance(sign, (ast.Is, ast.IsNot))]
                    self.assertTrue(all(isinstance(other, ast.Constant) for other in asked), name)

    def test_no_two_files_import_from_each_other(self):
        needs = {name[:-3]: {node.module.split(".")[1] for node in tree.body
                             if isinstance(node, ast.ImportFrom) and node.module.startswith("lanelots.")}
                 for name, tree in trees()}
        while needs:
            free = [name for name in needs if not needs[name] & set(needs)]
            self.assertTrue(free, needs)
            needs = {name: needs[name] for name in needs if name not in free}

    def test_names_of_parameters_and_variables_are_no_builtins(self):
        for name, tree in trees():
            local = {node.id for node in ast.walk(tree) if isinstance(node, ast.Name) and isinstance(node.ctx, ast.Store)}
            local.update(node.arg for node in ast.walk(tree) if isinstance(node, ast.arg))
            local.update(top_names(tree))
            self.assertFalse({word for word in local if hasattr(builtins, word)}, name)
