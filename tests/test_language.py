"""Those rules of the program's language that a look at the code can tell.

Each test names its rules. The other rules hold all the same, but are not tested here.
"""

import ast
import builtins
import pathlib
import unittest

PACKAGE = pathlib.Path(__file__).resolve().parent.parent / "lanternwatch"

LIBRARY = {
    "heapq": {"heappush", "heappop", "heapify", "heapreplace", "heappushpop"},
    "math": {"gcd", "lcm", "isqrt", "comb", "perm", "factorial"},
    "itertools": {"product", "combinations", "permutations", "chain", "accumulate", "pairwise",
                  "islice", "zip_longest"},
    "collections": {"defaultdict"},
}
BUILTINS = set(
    "len range enumerate zip min max sum abs sorted reversed int str bool bytes list tuple dict set"
    " frozenset isinstance ord repr any all divmod pow getattr hasattr setattr iter next map super"
    " property staticmethod classmethod object Exception ValueError TypeError KeyError IndexError"
    " LookupError ZeroDivisionError ArithmeticError OverflowError RuntimeError NotImplementedError"
    " AttributeError StopIteration NotImplemented".split()
)
METHODS = set(
    "append clear copy count endswith extend find get index insert isalnum isalpha isdigit islower"
    " isspace isupper items join keys ljust lower lstrip partition pop remove replace reverse rfind"
    " rjust rpartition rsplit rstrip setdefault sort split splitlines startswith strip update upper"
    " values zfill bit_length add discard format".split()
)
DUNDERS = set(
    "__init__ __eq__ __repr__ __str__ __len__ __enter__ __exit__ __call__ __iter__ __lt__ __le__"
    " __gt__ __ge__ __ne__ __contains__ __bool__ __class__ __name__".split()
)
NO_NODES = (ast.Global, ast.Import, ast.AsyncFunctionDef, ast.AsyncFor, ast.AsyncWith, ast.Await,
            ast.Div, ast.MatMult)
NOWHERE = set(
    "register mro elements open input law version_info with_traceback add_note".split()
)
INTERFACE = {
    "errors": {name: [] for name in (
        "LightError", "BadText", "NoKind", "BadPoint", "BadSight", "Full", "BadMoment",
        "BadBoats", "BadMany", "NoFoe")},
    "fleets": {"Fleet": ["plain", "kinds", "turn", "lamps"]},
    "reading": {"read": []},
    "showing": {"shown": []},
    "columns": {name: [] for name in ("column", "seen", "sectors", "are_alike", "all_boats")},
    "watches": {"Watch": ["fleet", "put", "sights", "last_moment", "agreeing", "steady"]},
    "histories": {name: [] for name in ("hides", "table", "history", "likely")},
    "looking": {name: [] for name in ("parted", "best_plan", "looks_of", "told_by")},
    "foes": {"Foe": ["answer", "answers", "left"]},
    "desk": {"Desk": ["watch", "say"]},
}


def defined_in(tree):
    """The functions and classes that stand in a body."""
    return {node.name: node for node in tree.body if isinstance(node, (ast.FunctionDef, ast.ClassDef))}


def bound_in(tree):
    """The names that a file gives: of its values, its functions and its classes."""
    values = [target.id for node in tree.body if isinstance(node, ast.Assign) for target in node.targets]
    return values + list(defined_in(tree))


class Language(unittest.TestCase):
    @classmethod
    def setUpClass(cls):
        cls.texts = {path.stem: path.read_text("ascii") for path in PACKAGE.glob("*.py")}
        cls.trees = {name: ast.parse(text) for name, text in cls.texts.items()}

    def nodes(self, *sorts):
        """Each node of these sorts, with its place."""
        for name, tree in self.trees.items():
            for node in ast.walk(tree):
                if isinstance(node, sorts):
                    yield f"{name}.py:{getattr(node, 'lineno', '?')}", node

    def own_methods(self):
        return {name for _, node in self.nodes(ast.ClassDef) for name in defined_in(node)}

    def test_files(self):
        """L1, L14"""
        for path in PACKAGE.iterdir():
            if path.name != "__pycache__":
                self.assertRegex(path.name, r"\A[a-z0-9_]+\.py\Z")
        self.assertIn("__init__", self.trees)

    def test_sizes(self):
        """L10"""
        for name, text in self.texts.items():
            lines = text.split("\n")
            self.assertLessEqual(len(lines), 400, name)
            self.assertLessEqual(max([len(line) for line in lines]), 120, name)
        for place, node in self.nodes(ast.FunctionDef):
            self.assertLessEqual(node.end_lineno - node.lineno + 1, 40, place)

    def test_signs(self):
        """L14, L27"""
        for name, text in self.texts.items():
            self.assertTrue(all([sign == "\n" or " " <= sign <= "~" for sign in text]), name)
        for place, node in self.nodes(ast.Constant):
            if isinstance(node.value, str):
                self.assertNotIn("%", node.value, place)
                self.assertFalse(node.value.startswith("__"), place)
            self.assertNotIsInstance(node.value, (float, complex), place)

    def test_imports(self):
        """L2, L16"""
        for place, node in self.nodes(ast.ImportFrom):
            names = {alias.name for alias in node.names}
            self.assertEqual(node.level, 0, place)
            if node.module in LIBRARY:
                self.assertLessEqual(names, LIBRARY[node.module], place)
                continue
            package, _, module = node.module.partition(".")
            self.assertEqual(package, "lanternwatch", place)
            self.assertLessEqual(names, set(bound_in(self.trees[module])), place)

    def test_no_two_files_import_from_each_other(self):
        """L16"""
        needs = {
            name: {node.module.partition(".")[2] for node in ast.walk(tree)
                   if isinstance(node, ast.ImportFrom) and node.module.startswith("lanternwatch.")}
            for name, tree in self.trees.items()
        }
        while needs:
            free = [name for name in needs if not needs[name] & set(needs)]
            self.assertTrue(free, f"a ring among {sorted(needs)}")
            needs = {name: needs[name] for name in needs if name not in free}

    def test_module_level(self):
        """L3, L4, L5, L15"""
        for name, tree in self.trees.items():
            for node in tree.body:
                if isinstance(node, ast.Expr):
                    self.assertIsInstance(node.value, ast.Constant, name)
                else:
                    self.assertIsInstance(
                        node, (ast.ImportFrom, ast.FunctionDef, ast.ClassDef, ast.Assign), name)
            bound = bound_in(tree)
            self.assertEqual(len(bound), len(set(bound)), name)

    def test_statements(self):
        """L6, L7"""
        for place, _ in self.nodes(*NO_NODES):
            self.fail(place)
        for place, node in self.nodes(ast.ClassDef):
            self.assertEqual(node.decorator_list, [], place)

    def test_names(self):
        """L8, L12, L15, L17"""
        for place, node in self.nodes(ast.Name, ast.FunctionDef, ast.ClassDef, ast.arg, ast.Attribute):
            word = [getattr(node, part) for part in ("id", "name", "arg", "attr") if hasattr(node, part)][0]
            self.assertNotIn(word, NOWHERE, place)
            self.assertTrue(word in DUNDERS or not word.startswith("__"), place)
            self.assertTrue(word.isascii(), place)
            if isinstance(node, ast.Name) and isinstance(node.ctx, ast.Load):
                self.assertTrue(word in BUILTINS or not hasattr(builtins, word), place)
            elif isinstance(node, (ast.Name, ast.arg)):
                self.assertFalse(hasattr(builtins, word), place)

    def test_no_name_of_a_class_function_or_import_is_used_again(self):
        """L15"""
        for name, tree in self.trees.items():
            taken = set(defined_in(tree))
            for node in ast.walk(tree):
                if isinstance(node, ast.ImportFrom):
                    taken |= {alias.name for alias in node.names}
            for node in ast.walk(tree):
                if isinstance(node, ast.arg):
                    self.assertNotIn(node.arg, taken, name)
                if isinstance(node, ast.Name) and isinstance(node.ctx, ast.Store):
                    self.assertNotIn(node.id, taken, name)

    def test_methods(self):
        """L25"""
        known = METHODS | self.own_methods()
        for place, node in self.nodes(ast.Call):
            if isinstance(node.func, ast.Attribute):
                self.assertIn(node.func.attr, known, place)

    def test_attributes_are_no_methods(self):
        """L18, L26"""
        for place, node in self.nodes(ast.ClassDef):
            stored = {part.attr for part in ast.walk(node)
                      if isinstance(part, ast.Attribute) and isinstance(part.ctx, ast.Store)}
            self.assertFalse(stored & set(defined_in(node)), place)

    def test_errors_that_are_caught(self):
        """L19"""
        for place, node in self.nodes(ast.ExceptHandler):
            self.assertIsNotNone(node.type, place)
            self.assertNotIn("Exception", ast.dump(node.type), place)
        for place, node in self.nodes(ast.Raise):
            self.assertTrue(node.exc is None or isinstance(node.exc, ast.Call), place)

    def test_is(self):
        """L20"""
        for place, node in self.nodes(ast.Compare):
            if isinstance(node.ops[0], (ast.Is, ast.IsNot)):
                self.assertIsInstance(node.comparators[0], ast.Constant, place)

    def test_sets_are_not_stored(self):
        """L24"""
        for place, node in self.nodes(ast.For, ast.comprehension):
            self.assertNotIsInstance(node.iter, (ast.Set, ast.SetComp), place)
        for place, node in self.nodes(ast.Return):
            self.assertNotIsInstance(node.value, (ast.Set, ast.SetComp), place)

    def test_the_interface_is_defined_in_its_files(self):
        """L5, L16, and the document's interface"""
        for module, names in INTERFACE.items():
            here = defined_in(self.trees[module])
            for name, methods in names.items():
                self.assertIn(name, here, module)
                for method in methods:
                    self.assertIn(method, defined_in(here[name]), f"{module}.{name}")


if __name__ == "__main__":
    unittest.main()
