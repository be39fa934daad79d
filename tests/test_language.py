"""The sizes, characters and imports that the package keeps to."""

import ast
import os
import unittest

TOP = os.path.join(os.path.dirname(os.path.abspath(__file__)), os.pardir, "onesolid")
LIBRARY = {"heapq": ("heappush", "heappop", "heapify", "heapreplace", "heappushpop"),
           "math": ("gcd", "lcm", "isqrt", "comb", "perm", "factorial"),
           "itertools": ("product", "combinations", "permutations", "chain", "accumulate", "pairwise", "islice",
                         "zip_longest"),
           "collections": ("defaultdict",)}


def texts():
    """Pairs of the name and the text of each file."""
    for name in sorted(os.listdir(TOP)):
        if name != "__pycache__":
            with open(os.path.join(TOP, name), encoding="utf-8") as file:
                yield name, file.read()


class Language(unittest.TestCase):

    def test_files(self):
        for name, text in texts():
            with self.subTest(name):
                self.assertRegex(name, r"^[a-z0-9_]+\.py$")
                self.assertLessEqual(len(text.splitlines()), 399)
                self.assertTrue(all(letter == "\n" or " " <= letter <= "~" for letter in text))
                self.assertLessEqual(max(map(len, text.splitlines())), 120)

    def test_functions_are_small(self):
        for name, text in texts():
            for node in ast.walk(ast.parse(text)):
                if isinstance(node, ast.FunctionDef):
                    with self.subTest(f"{name} {node.name}"):
                        self.assertLessEqual(node.end_lineno - node.lineno + 1, 40)

    def test_imports(self):
        files = [name[:-3] for name, _ in texts()]
        for name, text in texts():
            tree = ast.parse(text)
            for node in ast.walk(tree):
                with self.subTest(name):
                    self.assertNotIsInstance(node, ast.Import)
                    if isinstance(node, ast.ImportFrom):
                        self.assertIn(node, tree.body)
                        self.assertEqual(node.level, 0)
                        self.assert_known(files, node)

    def assert_known(self, files, node):
        for alias in node.names:
            self.assertIsNone(alias.asname)
            if node.module in LIBRARY:
                self.assertIn(alias.name, LIBRARY[node.module])
            else:
                package, file = node.module.split(".")
                self.assertEqual(package, "onesolid")
                self.assertIn(file, files)

    def test_imports_go_round_in_no_circle(self):
        looks = {}
        for name, text in texts():
            nodes = [node for node in ast.walk(ast.parse(text)) if isinstance(node, ast.ImportFrom)]
            looks[name[:-3]] = {node.module[9:] for node in nodes if node.module.startswith("onesolid.")}
        while looks:
            free = [name for name in looks if not looks[name] & set(looks)]
            self.assertTrue(free, looks)
            looks = {name: looks[name] for name in looks if name not in free}


if __name__ == "__main__":
    unittest.main()
