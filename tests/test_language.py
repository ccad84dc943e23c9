"""Those rules of LANGUAGE.md that a look at the files can tell."""

import ast
import builtins
import pathlib
import unittest

PACKAGE = pathlib.Path(__file__).resolve().parent.parent / "darkpace"
FILES = sorted(path for path in PACKAGE.rglob("*") if path.is_file() and "__pycache__" not in path.parts)
TREES = {path: ast.parse(path.read_text()) for path in FILES if path.suffix == ".py"}
INTERFACE = {
    "errors.py": (
        "DialError", "NoLength", "NoWord", "Clash", "NoLook", "NoRound", "NoUses",
        "NoSide", "NoRing", "NoSteps", "NoBottom", "NoText",
    ),
    "darks.py": ("Dark",),
    "rounds.py": ("least_behind", "greatest_behind", "fewest_uses", "most_uses"),
    "paces.py": ("paces", "ring", "ring_pace"),
    "hands.py": ("Hand",),
    "looking.py": ("neighbours", "followed"),
    "texts.py": ("show_look", "show_dark", "show_hand"),
    "readings.py": ("read_look", "read_dark", "read_hand"),
}
LIBRARY = {
    "math": ("gcd", "lcm", "isqrt", "comb", "perm", "factorial"),
    "heapq": ("heappush", "heappop", "heapify", "heapreplace", "heappushpop"),
    "itertools": (
        "product", "combinations", "permutations", "chain", "accumulate", "pairwise", "islice", "zip_longest",
    ),
    "collections": ("defaultdict", "deque"),
}
NAMES = (
    "len range enumerate zip min max sum abs sorted reversed int str bool bytes list tuple dict set frozenset "
    "isinstance ord repr any all divmod pow getattr hasattr setattr iter next map type super property staticmethod "
    "classmethod Exception ValueError TypeError KeyError IndexError LookupError ZeroDivisionError ArithmeticError "
    "OverflowError RuntimeError NotImplementedError AttributeError StopIteration NotImplemented"
).split()
BARRED = (ast.Div, ast.AsyncFunctionDef, ast.Import)
DOUBLE = (
    "init eq ne repr str len enter exit call iter lt le gt ge add sub mul floordiv mod pow and or xor lshift rshift "
    "neg pos invert abs bool contains getitem setitem"
).split()
EAGER = ("any", "all", "min", "max", "sum", "sorted")


def nodes(tree, *kinds):
    return [node for node in ast.walk(tree) if isinstance(node, kinds)]


def bound_names(tree):
    """All names that a file gives a meaning."""
    names = {node.id for node in nodes(tree, ast.Name) if isinstance(node.ctx, ast.Store)}
    names |= {node.name for node in nodes(tree, ast.FunctionDef, ast.ClassDef)}
    names |= {node.arg for node in nodes(tree, ast.arg)}
    return names | {alias.name for node in nodes(tree, ast.ImportFrom) for alias in node.names}


class Language(unittest.TestCase):
    def test_the_package_is_one_folder_of_plain_files(self):
        self.assertIn(PACKAGE / "__init__.py", FILES)
        for path in FILES:
            self.assertEqual((path.suffix, path.parent), (".py", PACKAGE))

    def test_sizes_and_characters(self):
        for path, tree in TREES.items():
            lines = path.read_text().split("\n")
            self.assertLessEqual(len(lines), 399)
            for line in lines:
                self.assertLessEqual(len(line), 120)
                self.assertTrue(all(" " <= sign <= "~" for sign in line), (path, line))
            for node in nodes(tree, ast.FunctionDef):
                self.assertLessEqual(node.end_lineno - node.lineno + 1, 40, node.name)

    def test_imports(self):
        for path, tree in TREES.items():
            for node in nodes(tree, ast.ImportFrom):
                self.assertIn(node, tree.body)
                names = [alias.name for alias in node.names]
                self.assertTrue(all(alias.asname is None for alias in node.names))
                if node.module in LIBRARY:
                    self.assertTrue(set(names) <= set(LIBRARY[node.module]))
                    continue
                self.assertRegex(node.module, r"^darkpace\.\w+$")
                source = TREES[PACKAGE / (node.module.split(".")[1] + ".py")]
                defined = {part.name for part in source.body if isinstance(part, (ast.FunctionDef, ast.ClassDef))}
                defined |= {part.targets[0].id for part in source.body if isinstance(part, ast.Assign)}
                self.assertTrue(set(names) <= defined, path)

    def test_no_barred_parts(self):
        for path, tree in TREES.items():
            self.assertEqual(nodes(tree, *BARRED), [], path)
            for node in nodes(tree, ast.FunctionDef):
                if node.name.startswith("__"):
                    self.assertIn(node.name.strip("_"), DOUBLE)
            for node in nodes(tree, ast.Constant):
                self.assertIsInstance(node.value, (int, str, bool, type(None)))
                self.assertFalse(isinstance(node.value, str) and "%" in node.value)

    def test_lists_where_a_class_has_its_own_likeness(self):
        for tree in TREES.values():
            for node in nodes(tree, ast.Call):
                if isinstance(node.func, ast.Name) and node.func.id in EAGER:
                    self.assertFalse([part for part in node.args if isinstance(part, ast.GeneratorExp)])

    def test_builtins(self):
        for path, tree in TREES.items():
            known = bound_names(tree)
            self.assertEqual(known & set(dir(builtins)), set(), path)
            used = {node.id for node in nodes(tree, ast.Name)} - known
            self.assertTrue(used <= set(NAMES), (path, used))

    def test_the_interface_is_defined_in_its_files(self):
        for file, names in INTERFACE.items():
            body = TREES[PACKAGE / file].body
            defined = [part.name for part in body if isinstance(part, (ast.FunctionDef, ast.ClassDef))]
            for name in names:
                self.assertEqual(defined.count(name), 1, name)


if __name__ == "__main__":
    unittest.main()
