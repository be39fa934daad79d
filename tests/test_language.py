"""The sizes, characters, imports and words that the package keeps to."""

import ast
import builtins
import os
import unittest

TOP = os.path.join(os.path.dirname(os.path.abspath(__file__)), os.pardir, "onesolid")
LIBRARY = {"heapq": ("heappush", "heappop", "heapify", "heapreplace", "heappushpop"),
           "math": ("gcd", "lcm", "isqrt", "comb", "perm", "factorial"),
           "itertools": ("product", "combinations", "permutations", "chain", "accumulate", "pairwise", "islice",
                         "zip_longest"),
           "collections": ("defaultdict",)}
BUILTINS = set("""len range enumerate zip min max sum abs sorted reversed int str bool bytes list tuple dict set
    frozenset isinstance ord repr any all divmod pow Exception ValueError TypeError KeyError IndexError LookupError
    ZeroDivisionError ArithmeticError OverflowError RuntimeError NotImplementedError AttributeError property""".split())
METHODS = set("""append clear copy count endswith extend find get index insert isalnum isalpha isdigit islower isspace
    isupper items join keys ljust lower lstrip partition pop remove replace reverse rfind rjust rpartition rsplit rstrip
    setdefault split splitlines startswith strip update upper values zfill bit_length removeprefix""".split())
BARRED = set("""register mro elements open input law version_info with_traceback add_note attrgetter breakpoint builtins
    compile copyright credits delattr dir eval exec exit gc getattr globals hasattr help id importlib license locals
    methodcaller os quit setattr super type vars sys typing enum iter next map object""".split())
BEGINNINGS = ("_wall", "_pe_", "_dcw_", "_enum_", "_cm_", "_twin_re_", "_lay_", "_law_", "_stub_", "_sre", "_WallAttr",
              "_cold", "_tuplegetter", "_outside", "_record", "_written_out", "_member_names")
WORDS = ("type", "typing", "typing_extensions", "enum", "Enum", "IntEnum", "StrEnum", "Flag", "IntFlag", "Generic",
         "Protocol", "ABC", "ABCMeta", "namedtuple", "NamedTuple", "TypedDict", "TYPE_CHECKING", "abstractmethod")
STATEMENTS = (ast.FunctionDef, ast.ClassDef, ast.ImportFrom, ast.Expr, ast.Assign, ast.AugAssign, ast.If, ast.While,
              ast.For, ast.Return, ast.Break, ast.Continue, ast.Pass, ast.Raise, ast.Assert, ast.Delete, ast.Try)
LITERALS = (ast.Constant, ast.Tuple, ast.Dict, ast.List, ast.UnaryOp, ast.BinOp)


def texts():
    """Pairs of the name and the text of each file."""
    for name in sorted(os.listdir(TOP)):
        if name != "__pycache__":
            with open(os.path.join(TOP, name), encoding="utf-8") as file:
                yield name, file.read()


class Language(unittest.TestCase):

    def test_files(self):
        for name, text in texts():
            with self.subTest(name):
                self.assertRegex(name, r"^[a-z0-9_]+\.py$")
                self.assertLessEqual(len(text.splitlines()), 399)
                self.assertTrue(all(letter == "\n" or " " <= letter <= "~" for letter in text))
                self.assertLessEqual(max(map(len, text.splitlines())), 120)

    def test_functions_are_small(self):
        for name, text in texts():
            for node in ast.walk(ast.parse(text)):
                if isinstance(node, ast.FunctionDef):
                    with self.subTest(f"{name} {node.name}"):
                        self.assertLessEqual(node.end_lineno - node.lineno + 1, 40)

    def test_imports(self):
        files = [name[:-3] for name, _ in texts()]
        for name, text in texts():
            tree = ast.parse(text)
            for node in ast.walk(tree):
                with self.subTest(name):
                    self.assertNotIsInstance(node, ast.Import)
                    if isinstance(node, ast.ImportFrom):
                        self.assertIn(node, tree.body)
                        self.assertEqual(node.level, 0)
                        self.assert_known(files, node)

    def assert_known(self, files, node):
        for alias in node.names:
            self.assertIsNone(alias.asname)
            if node.module in LIBRARY:
                self.assertIn(alias.name, LIBRARY[node.module])
            else:
                package, file = node.module.split(".")
                self.assertEqual(package, "onesolid")
                self.assertIn(file, files)

    def test_names_are_bound_once_and_imported_from_where_they_are_defined(self):
        own = {}
        imported = []
        for name, text in texts():
            body = ast.parse(text).body
            own[name[:-3]] = [node.name for node in body if isinstance(node, (ast.FunctionDef, ast.ClassDef))]
            own[name[:-3]] += [node.targets[0].id for node in body if isinstance(node, ast.Assign)]
            pairs = [(node.module, alias.name) for node in body if isinstance(node, ast.ImportFrom)
                     for alias in node.names]
            bound = own[name[:-3]] + [word for _, word in pairs]
            self.assertEqual(len(set(bound)), len(bound), name)
            imported += [(module[9:], word) for module, word in pairs if module.startswith("onesolid.")]
        for file, word in imported:
            self.assertIn(word, own[file])

    def test_imports_go_round_in_no_circle(self):
        looks = {}
        for name, text in texts():
            nodes = [node for node in ast.walk(ast.parse(text)) if isinstance(node, ast.ImportFrom)]
            looks[name[:-3]] = {node.module[9:] for node in nodes if node.module.startswith("onesolid.")}
        while looks:
            free = [name for name in looks if not looks[name] & set(looks)]
            self.assertTrue(free, looks)
            looks = {name: looks[name] for name in looks if name not in free}

    def each_node(self):
        for name, text in texts():
            for node in ast.walk(ast.parse(text)):
                yield name, node

    def test_words(self):
        for name, text in texts():
            for word in ("_wall", "_WallAttr", "dataclass", "overload", "contextmanager"):
                self.assertNotIn(word, text, name)
            for node in ast.walk(ast.parse(text)):
                words = [getattr(node, field, None) for field in ("id", "attr", "arg", "name")]
                for word in words:
                    if isinstance(word, str):
                        self.assertFalse(word.startswith(BEGINNINGS) or word in WORDS, (name, word))
                if isinstance(node, ast.Constant) and isinstance(node.value, str) and len(node.value) < 40:
                    self.assertNotIn(node.value, WORDS, name)
                    self.assertFalse(node.value.endswith(("._", ".__")), name)

    def test_stars_and_stored_calls(self):
        """Behind a star stand names; what is iterated at once is not handed on but to what iterates it."""
        takers = ("list", "tuple", "dict", "sorted", "sum", "any", "all", "enumerate", "zip", "min", "max",
                  "combinations")
        for name, text in texts():
            tree = ast.parse(text)
            above = {child: node for node in ast.walk(tree) for child in ast.iter_child_nodes(node)}
            for node in ast.walk(tree):
                if isinstance(node, ast.Starred):
                    self.assertIsInstance(node.value, ast.Name, name)
                if isinstance(node, ast.Call) and (getattr(node.func, "attr", "") in ("items", "keys", "values")
                                                   or getattr(node.func, "id", "") in ("zip", "enumerate", "reversed")):
                    over = above[node]
                    is_taken = isinstance(over, ast.Call) and getattr(over.func, "id", "") in takers
                    is_kept = isinstance(over, ast.Assign) and isinstance(over.targets[0], ast.Name)
                    is_gone_over = isinstance(over, (ast.For, ast.comprehension))
                    self.assertTrue(is_taken or is_kept or is_gone_over, (name, node.lineno))

    def test_loops_do_not_change_what_they_go_over(self):
        changing = ("append", "extend", "pop", "remove", "insert", "clear", "update", "setdefault", "reverse")
        for name, node in self.each_node():
            if isinstance(node, ast.For):
                over = {own.id for own in ast.walk(node.iter) if isinstance(own, ast.Name)}
                copied = isinstance(node.iter, ast.Call) and getattr(node.iter.func, "id", "") == "list"
                for own in [inner for row in node.body for inner in ast.walk(row)]:
                    if isinstance(own, ast.Call) and getattr(own.func, "attr", "") in changing and not copied:
                        self.assertNotIn(getattr(own.func.value, "id", ""), over, (name, node.lineno))
                    if isinstance(own, ast.AugAssign) and isinstance(own.target, ast.Name):
                        self.assertNotIn(own.target.id, over, (name, node.lineno))

    def test_statements(self):
        for name, node in self.each_node():
            if isinstance(node, ast.stmt):
                self.assertIsInstance(node, STATEMENTS, name)
            self.assertNotIsInstance(node, (ast.Yield, ast.Await, ast.Set, ast.NamedExpr, ast.GeneratorExp), name)
            if isinstance(node, ast.FunctionDef):
                self.assertFalse(node.args.kwarg or node.args.vararg, name)
                self.assertTrue(all(ast.unparse(own) == "property" for own in node.decorator_list), name)
            if isinstance(node, ast.Constant):
                self.assertNotIsInstance(node.value, (float, complex, bytes), name)
                self.assertNotIn("%", str(node.value), name)
            if isinstance(node, ast.BinOp):
                self.assertNotIsInstance(node.op, (ast.Div, ast.MatMult), name)
            if isinstance(node, ast.BinOp) and isinstance(node.op, ast.Pow):
                self.assertIsInstance(node.right, ast.Constant, name)

    def test_module_level(self):
        for name, text in texts():
            for number, node in enumerate(ast.parse(text).body):
                self.assertIsInstance(node, (ast.FunctionDef, ast.ClassDef, ast.ImportFrom, ast.Expr, ast.Assign), name)
                if isinstance(node, ast.Expr):
                    self.assertEqual(number, 0, name)
                if isinstance(node, ast.Assign):
                    self.assertIsInstance(node.value, LITERALS, name)
                    self.assertEqual([type(target) for target in node.targets], [ast.Name], name)

    def test_names(self):
        for name, text in texts():
            tree = ast.parse(text)
            taken = {alias.name for node in ast.walk(tree) if isinstance(node, ast.ImportFrom) for alias in node.names}
            taken |= {node.name for node in ast.walk(tree) if isinstance(node, ast.ClassDef)}
            for node in ast.walk(tree):
                bound = None
                if isinstance(node, ast.Name) and isinstance(node.ctx, ast.Store):
                    bound = node.id
                elif isinstance(node, ast.arg):
                    bound = node.arg
                elif isinstance(node, ast.FunctionDef):
                    bound = node.name
                if bound not in (None, "__init__", "__len__", "__eq__"):
                    with self.subTest(f"{name} {bound}"):
                        self.assertNotIn(bound, taken | BARRED)
                        self.assertFalse(bound.startswith("__") or hasattr(builtins, bound))

    def test_builtins_and_methods(self):
        own = set()
        for _, node in self.each_node():
            if isinstance(node, ast.FunctionDef):
                own.add(node.name)
        for name, node in self.each_node():
            if isinstance(node, ast.Name) and hasattr(builtins, node.id):
                self.assertIn(node.id, BUILTINS, name)
            if isinstance(node, ast.Call) and isinstance(node.func, ast.Attribute):
                self.assertIn(node.func.attr, METHODS | own, name)

    def test_is_stands_beside_none_alone(self):
        for name, node in self.each_node():
            if isinstance(node, ast.Compare) and isinstance(node.ops[0], (ast.Is, ast.IsNot)):
                self.assertIsInstance(node.comparators[0], ast.Constant, name)

    def test_sets_are_not_kept(self):
        """They stand in sorted(..), len(..), or behind "in"."""
        for name, text in texts():
            allowed = []
            for node in ast.walk(ast.parse(text)):
                if isinstance(node, ast.Call) and isinstance(node.func, ast.Name) and node.func.id in ("sorted", "len"):
                    allowed += node.args
                elif isinstance(node, ast.Compare):
                    allowed += node.comparators
                is_set = isinstance(node, ast.SetComp)
                if isinstance(node, ast.Call) and isinstance(node.func, ast.Name):
                    is_set = is_set or node.func.id == "set"
                if is_set:
                    self.assertIn(node, allowed, name)


if __name__ == "__main__":
    unittest.main()
