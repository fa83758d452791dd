"""The rules of ../shared/LANGUAGE.md that can be seen by reading the files of the package one by one.

It does not see all of them: what it lets pass may still break a rule.
"""

import ast
import builtins
import re
import unittest
from pathlib import Path

PACKAGE = Path(__file__).resolve().parent.parent / "cornersure"
LIBRARY = {
    "heapq": "heappush heappop heapify heapreplace heappushpop".split(),
    "math": "gcd lcm isqrt comb perm factorial".split(),
    "itertools": "product combinations permutations".split(),
}
BUILTINS = """
    len range enumerate zip min max sum abs sorted reversed int str bool bytes list tuple dict set frozenset isinstance
    ord repr any all divmod iter next map Exception ValueError TypeError KeyError IndexError LookupError
    ZeroDivisionError ArithmeticError OverflowError RuntimeError NotImplementedError AttributeError StopIteration
    NotImplemented""".split()
DECORATORS = ("property", "staticmethod", "classmethod")
SPECIAL = """
    init eq repr str len enter exit call iter lt le gt ge ne add sub mul floordiv mod pow and or xor lshift rshift neg
    pos invert abs bool contains getitem setitem""".split()
METHODS = """
    append clear copy count endswith extend find get index insert isalnum isalpha isdigit islower isspace isupper items
    join keys ljust lower lstrip partition pop remove replace reverse rfind rjust rpartition rsplit rstrip setdefault
    split splitlines startswith strip update upper values zfill bit_length title capitalize swapcase casefold center
    expandtabs removeprefix removesuffix rindex isascii isdecimal isnumeric istitle isidentifier isprintable translate
    add discard sort encode decode hex""".split()
BARRED_NAMES = """
    register mro elements open input law version_info with_traceback add_note attrgetter breakpoint builtins compile
    copyright credits delattr dir eval exec exit gc getattr globals hasattr help id importlib license locals
    methodcaller os quit setattr type vars sys""".split()
BARRED_WORDS = r"\b(typing|typing_extensions|enum|Enum|IntEnum|StrEnum|Flag|IntFlag|Generic|Protocol|ABC|ABCMeta|" \
    r"namedtuple|NamedTuple|TypedDict|TYPE_CHECKING|abstractmethod|_wall)\b|_WallAttr|dataclass|overload|contextmanager"
BARRED_NODES = (ast.Global, ast.AsyncFunctionDef, ast.AsyncFor, ast.AsyncWith, ast.Await, ast.Div, ast.MatMult)


def files():
    return sorted(PACKAGE.rglob("*.py"))


def module_name(path):
    return ".".join(["cornersure", *path.relative_to(PACKAGE).with_suffix("").parts])


def defined_names(tree):
    names = []
    for node in tree.body:
        if isinstance(node, (ast.FunctionDef, ast.ClassDef)):
            names.append(node.name)
        elif isinstance(node, ast.Assign):
            names.extend(target.id for target in node.targets if isinstance(target, ast.Name))
    return names


def bound_names(tree):
    for node in ast.walk(tree):
        if isinstance(node, (ast.FunctionDef, ast.ClassDef)):
            yield node.name
        elif isinstance(node, ast.arg):
            yield node.arg
        elif isinstance(node, ast.Name) and not isinstance(node.ctx, ast.Load):
            yield node.id
        elif isinstance(node, ast.ExceptHandler) and node.name:
            yield node.name


class LanguageTest(unittest.TestCase):
    @classmethod
    def setUpClass(cls):
        cls.texts = {path: path.read_text(encoding="utf-8") for path in files()}
        cls.trees = {path: ast.parse(text) for path, text in cls.texts.items()}
        cls.own = {name for tree in cls.trees.values() for name in bound_names(tree)}

    def nodes(self, *kinds):
        for path, tree in self.trees.items():
            for node in ast.walk(tree):
                if isinstance(node, kinds):
                    yield f"{path.name}:{getattr(node, 'lineno', 0)}", node

    def test_l1_l14_files(self):
        self.assertTrue(self.texts)
        for path in PACKAGE.rglob("*"):
            if "__pycache__" not in path.parts:
                plain = re.fullmatch(r"(__init__|__main__|[a-z][a-z0-9_]*)(\.py)?", path.name)
                self.assertTrue(plain and (path.is_dir() or path.suffix == ".py"), path)

    def test_l10_l14_sizes_and_characters(self):
        for path, text in self.texts.items():
            self.assertEqual(re.findall(r"[^ -~\n]", text), [], path)
            self.assertLessEqual(len(text.split("\n")), 399, path)
            self.assertLessEqual(max(len(line) for line in text.split("\n")), 120, path)
        for place, node in self.nodes(ast.FunctionDef):
            self.assertLessEqual(node.end_lineno - node.lineno + 1, 40, place)

    def test_l2_l16_imports(self):
        by_name = {module_name(path): defined_names(tree) for path, tree in self.trees.items()}
        self.assertEqual([place for place, _ in self.nodes(ast.Import)], [])
        for place, node in self.nodes(ast.ImportFrom):
            self.assertEqual((node.level, node.col_offset), (0, 0), place)
            known = by_name[node.module] if node.module in by_name else LIBRARY[node.module]
            for alias in node.names:
                self.assertIn(alias.name, known, place)
                self.assertTrue(alias.asname is None or node.module in by_name, place)

    def test_l16_no_two_files_import_from_each_other(self):
        needs = {module_name(path): set() for path in self.trees}
        for path, tree in self.trees.items():
            for node in ast.walk(tree):
                if isinstance(node, ast.ImportFrom) and node.module in needs:
                    needs[module_name(path)].add(node.module)
        self.assertEqual(needs["cornersure.__init__"], set())
        while needs:
            free = [name for name, others in needs.items() if not others & set(needs)]
            self.assertTrue(free, f"imports in a ring: {sorted(needs)}")
            needs = {name: others for name, others in needs.items() if name not in free}

    def test_l3_module_level(self):
        for path, tree in self.trees.items():
            for at, node in enumerate(tree.body):
                text = at == 0 and isinstance(node, ast.Expr) and isinstance(node.value, ast.Constant)
                kinds = (ast.ImportFrom, ast.FunctionDef, ast.ClassDef, ast.Assign)
                self.assertTrue(text or isinstance(node, kinds), f"{path.name}:{node.lineno}")
                if isinstance(node, ast.Assign):
                    called = [part for part in ast.walk(node) if isinstance(part, (ast.Call, ast.comprehension))]
                    self.assertEqual((called, len(node.targets)), ([], 1), f"{path.name}:{node.lineno}")
            names = defined_names(tree)
            self.assertEqual(len(names), len(set(names)), path)

    def test_l4_l5_decorators_and_special_methods(self):
        for place, node in self.nodes(ast.ClassDef):
            self.assertEqual(node.decorator_list, [], place)
        for place, node in self.nodes(ast.FunctionDef):
            for decorator in node.decorator_list:
                setter = isinstance(decorator, ast.Attribute) and decorator.attr == "setter"
                self.assertTrue(setter or decorator.id in DECORATORS, place)
            if node.name.startswith("__"):
                self.assertIn(node.name.strip("_"), SPECIAL, place)

    def test_l6_l7_statements_and_values(self):
        self.assertEqual([place for place, _ in self.nodes(*BARRED_NODES)], [])
        for place, node in self.nodes(ast.Constant):
            self.assertNotIsInstance(node.value, (float, complex), place)
            if isinstance(node.value, str):
                self.assertNotIn("%", node.value, place)

    def test_l8_l15_builtins(self):
        python = set(dir(builtins))
        for place, node in self.nodes(ast.Name):
            if isinstance(node.ctx, ast.Load) and node.id in python:
                self.assertIn(node.id, [*BUILTINS, *DECORATORS, "super"], place)
        methods = {part.name for _, node in self.nodes(ast.ClassDef) for part in node.body
                   if isinstance(part, ast.FunctionDef)}
        self.assertEqual((self.own - methods) & python, set())
        self.assertEqual(methods & set(BUILTINS), set())

    def test_l12_l17_names(self):
        attributes = {node.attr for _, node in self.nodes(ast.Attribute)}
        for name in self.own | attributes:
            special = name.startswith("__") and name.strip("_") in [*SPECIAL, "class", "name", "slots"]
            self.assertTrue(name == "_" or special or re.fullmatch("_?[A-Za-z][A-Za-z0-9_]*", name), name)
        self.assertEqual(self.own & set(BARRED_NAMES), set())
        for path, text in self.texts.items():
            self.assertIsNone(re.search(BARRED_WORDS, text), path)

    def test_l20_is(self):
        for place, node in self.nodes(ast.Compare):
            if any(isinstance(sign, (ast.Is, ast.IsNot)) for sign in node.ops):
                sides = [node.left, *node.comparators]
                known = any(isinstance(side, ast.Constant) and side.value in (None, True, False) for side in sides)
                self.assertTrue(known or isinstance(node.left, ast.Name) and node.left.id == "self", place)

    def test_l20_no_method_is_read_off_a_class(self):
        """Only then `self` may be compared by `is`."""
        classes = {node.name for _, node in self.nodes(ast.ClassDef)}
        for place, node in self.nodes(ast.Attribute):
            self.assertFalse(isinstance(node.value, ast.Name) and node.value.id in classes, place)

    def test_l25_methods_of_builtin_values(self):
        for place, node in self.nodes(ast.Call):
            if isinstance(node.func, ast.Attribute) and node.func.attr != "__init__":
                self.assertIn(node.func.attr, [*METHODS, *self.own], place)

    def test_l6_l7_stars_and_what_leaves_a_with(self):
        for place, node in self.nodes(ast.Call):
            for star in [part.value for part in node.args if isinstance(part, ast.Starred)]:
                self.assertIsInstance(star, (ast.Name, ast.Attribute, ast.List, ast.Tuple), place)
        for place, node in self.nodes(ast.FunctionDef):
            if node.name == "__exit__":
                for part in ast.walk(node):
                    self.assertNotIsInstance(part, (ast.Call, ast.Subscript, ast.Raise, ast.BinOp), place)

    def test_l27_escapes(self):
        for path, text in self.texts.items():
            escapes = set(re.findall(r"\\(.)", text))
            self.assertLessEqual(escapes, set("nt\\\"'"), path)


if __name__ == "__main__":
    unittest.main()
