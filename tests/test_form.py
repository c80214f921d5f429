"""The rules of LANGUAGE.md that can be seen from the files of the package alone."""

import ast
import re
import unittest
from pathlib import Path

PACKAGE = Path(__file__).resolve().parent.parent / "rungbounds"
FILES = sorted(PACKAGE.glob("*.py"))
LIBRARY = {"heapq": {"heappush", "heappop", "heapify", "heapreplace", "heappushpop"},
           "math": {"gcd", "lcm", "isqrt", "comb", "perm", "factorial"},
           "itertools": {"product", "combinations", "permutations"}}
BUILTINS = set("""len range enumerate zip min max sum abs sorted reversed int str bool bytes list tuple dict set
frozenset isinstance ord repr any all divmod Exception ValueError TypeError KeyError IndexError LookupError
ZeroDivisionError ArithmeticError OverflowError RuntimeError NotImplementedError AttributeError StopIteration
NotImplemented iter next map super property staticmethod classmethod""".split())
METHODS = set("""__init__ __eq__ __repr__ __str__ __len__ __enter__ __exit__ __call__ __iter__ __lt__ __le__ __gt__
__ge__ __ne__ __add__ __sub__ __mul__ __floordiv__ __mod__ __pow__ __and__ __or__ __xor__ __neg__ __pos__ __invert__
__abs__ __bool__ __contains__ __getitem__ __setitem__""".split())
BARRED_NODES = (ast.Global, ast.AsyncFunctionDef, ast.AsyncFor, ast.AsyncWith, ast.Await, ast.Div, ast.GeneratorExp,
                ast.ClassDef)
BARRED_WORDS = re.compile(r"\b(_wall|_WallAttr|typing|enum|Enum|namedtuple|NamedTuple|ABC|Protocol|Generic|Flag)\b"
                          r"|\(type\)|Meta|metaclass=")
# Strings may be such words: "open" is one that the document asks for.
BARRED_NAMES = set("""register mro elements open input law version_info with_traceback add_note eval exec getattr
setattr delattr hasattr globals locals vars type id dir sys os""".split())


def trees():
    for path in FILES:
        text = path.read_text(encoding="ascii")
        yield path, text, ast.parse(text)


def names_used(tree):
    for node in ast.walk(tree):
        if isinstance(node, ast.Name):
            yield node.id
        elif isinstance(node, ast.Attribute):
            yield node.attr
        elif isinstance(node, (ast.arg, ast.keyword)):
            yield node.arg
        elif isinstance(node, (ast.FunctionDef, ast.ClassDef, ast.alias)):
            yield node.name


def names_defined(tree):
    for node in tree.body:
        if isinstance(node, (ast.FunctionDef, ast.ClassDef)):
            yield node.name
        elif isinstance(node, ast.Assign):
            yield from (target.id for target in node.targets)


def is_plain_number(node):
    """Tell whether the code shows that a value, or each item of a list, is a number or a string."""
    if isinstance(node, ast.ListComp):
        return is_plain_number(node.elt)
    if isinstance(node, ast.Call) and isinstance(node.func, ast.Name):
        return node.func.id in ("len", "int", "ord", "str", "repr", "range")
    return isinstance(node, ast.Constant)


class FormTest(unittest.TestCase):
    def test_package_holds_plain_files_only(self):
        self.assertTrue((PACKAGE / "__init__.py").is_file())
        for path in PACKAGE.iterdir():
            if path.name != "__pycache__":
                self.assertRegex(path.name, r"^(__init__|__main__|[a-z][a-z0-9_]*)\.py$")

    def test_sizes(self):
        for path, text, tree in trees():
            with self.subTest(path.name):
                lines = text.split("\n")
                self.assertLessEqual(len(lines), 399)
                self.assertLessEqual(max(len(line) for line in lines), 120)
                for node in ast.walk(tree):
                    if isinstance(node, ast.FunctionDef):
                        self.assertLessEqual(node.end_lineno - node.lineno + 1, 40, node.name)

    def test_characters_and_words(self):
        for path, text, tree in trees():
            with self.subTest(path.name):
                self.assertEqual({letter for letter in text if not " " <= letter <= "~"}, {"\n"})
                self.assertIsNone(BARRED_WORDS.search(text))
                self.assertEqual(BARRED_NAMES & set(names_used(tree)), set())
                for node in ast.walk(tree):
                    if isinstance(node, ast.Constant):
                        self.assertNotIsInstance(node.value, float)
                        self.assertFalse(isinstance(node.value, str) and "%" in node.value)

    def test_imports(self):
        defined = {path.stem: set(names_defined(tree)) for path, _, tree in trees()}
        for path, _, tree in trees():
            for node in ast.walk(tree):
                self.assertNotIsInstance(node, ast.Import)
                if not isinstance(node, ast.ImportFrom):
                    continue
                with self.subTest(path.name, module=node.module):
                    self.assertIn(node, tree.body)
                    package, _, file = node.module.partition(".")
                    known = defined.get(file) if package == "rungbounds" else LIBRARY.get(package)
                    for name in node.names:
                        self.assertIn(name.name, known)
                        self.assertIsNone(name.asname)

    def test_module_level(self):
        kinds = (ast.ImportFrom, ast.FunctionDef, ast.ClassDef, ast.Assign)
        for path, _, tree in trees():
            with self.subTest(path.name):
                self.assertTrue(ast.get_docstring(tree))
                self.assertTrue(all(isinstance(node, kinds) for node in tree.body[1:]))
                bound = list(names_defined(tree))
                self.assertEqual(len(bound), len(set(bound)))

    def test_statements_and_expressions(self):
        for path, _, tree in trees():
            top = [node for node in tree.body if isinstance(node, ast.ClassDef)]
            for node in ast.walk(tree):
                if node not in top:
                    self.assertNotIsInstance(node, BARRED_NODES, path.name)
                if isinstance(node, ast.ClassDef):
                    self.assertEqual(node.decorator_list, [])
                if isinstance(node, ast.FunctionDef):
                    self.assertTrue(not node.name.startswith("__") or node.name in METHODS, node.name)
                    self.assertIsNone(node.returns)
                if isinstance(node, ast.arg):
                    self.assertIsNone(node.annotation)

    def test_builtins(self):
        every = set(dir(__builtins__)) if not isinstance(__builtins__, dict) else set(__builtins__)
        for path, _, tree in trees():
            for node in ast.walk(tree):
                if isinstance(node, ast.Name) and node.id in every:
                    self.assertIn(node.id, BUILTINS, path.name)
                    self.assertIsInstance(node.ctx, ast.Load)
                if isinstance(node, ast.arg):
                    self.assertNotIn(node.arg, every)

    def test_classes_with_items_bar_iteration(self):
        for path, _, tree in trees():
            for node in tree.body:
                if isinstance(node, ast.ClassDef):
                    methods = {part.name for part in node.body if isinstance(part, ast.FunctionDef)}
                    self.assertTrue("__getitem__" not in methods or "__iter__" in methods, node.name)

    def test_names_of_methods_and_attributes_keep_apart(self):
        plain, others, attributes = set(), set(), set()
        for _, _, tree in trees():
            for node in ast.walk(tree):
                if isinstance(node, ast.ClassDef):
                    for part in node.body:
                        if isinstance(part, ast.FunctionDef):
                            (others if part.decorator_list else plain).add(part.name)
                        else:
                            others |= {target.id for target in getattr(part, "targets", [])}
                if isinstance(node, ast.Attribute) and isinstance(node.ctx, ast.Store):
                    attributes.add(node.attr)
        self.assertEqual(plain & others, set())
        self.assertEqual(plain & attributes, set())
        # The property that can be assigned is assigned by callers only.
        self.assertEqual(others & attributes, set())

    def test_local_names_are_no_imports_and_no_classes(self):
        for path, _, tree in trees():
            taken = {name.name for node in tree.body if isinstance(node, ast.ImportFrom) for name in node.names}
            taken |= {node.name for node in tree.body if isinstance(node, ast.ClassDef)}
            for node in ast.walk(tree):
                if isinstance(node, ast.arg):
                    self.assertNotIn(node.arg, taken, path.name)
                if isinstance(node, ast.Name) and isinstance(node.ctx, ast.Store):
                    self.assertNotIn(node.id, taken, path.name)

    def test_sets_are_not_used(self):
        # Where the order of a set could be seen is hard to tell, so that dicts stand instead.
        for path, _, tree in trees():
            for node in ast.walk(tree):
                self.assertNotIsInstance(node, (ast.Set, ast.SetComp), path.name)
                self.assertFalse(isinstance(node, ast.Name) and node.id == "set", path.name)

    def test_ordering_takes_plain_numbers(self):
        # Bounds have <= but no <, so that what is put in order must plainly be a number.
        for path, _, tree in trees():
            for node in ast.walk(tree):
                if isinstance(node, ast.Attribute):
                    self.assertNotEqual(node.attr, "sort", path.name)
                if isinstance(node, ast.Call) and isinstance(node.func, ast.Name):
                    if node.func.id in ("sorted", "min", "max"):
                        self.assertTrue(any(is_plain_number(part) for part in node.args), ast.unparse(node))


if __name__ == "__main__":
    unittest.main()
