"""The rules of ../shared/LANGUAGE.md that can be looked through by reading the files of the package."""

import ast
import builtins
import re
import unittest
from pathlib import Path

PACKAGE = Path(__file__).resolve().parent.parent / "weirlines"

LIBRARY = {"heapq": {"heappush", "heappop", "heapify", "heapreplace", "heappushpop"},
           "math": {"gcd", "lcm", "isqrt", "comb", "perm", "factorial"}}
BUILTINS = set("""len range enumerate zip min max sum abs sorted reversed int str bool list tuple dict set frozenset
    isinstance ord repr any all divmod Exception ValueError TypeError KeyError IndexError LookupError
    ZeroDivisionError ArithmeticError OverflowError RuntimeError NotImplementedError AttributeError StopIteration
    NotImplemented iter next super property staticmethod classmethod map""".split())
METHODS = set("""append clear copy count endswith extend find get index insert isalnum isalpha isdigit islower isspace
    isupper items join keys ljust lower lstrip partition pop remove replace reverse rfind rjust rpartition rsplit rstrip
    setdefault split splitlines startswith strip update upper values zfill bit_length add discard""".split())
SPECIAL = set("__init__ __eq__ __repr__ __str__ __len__ __bool__ __contains__ __getitem__ __iter__ __add__ __call__".split())
BARRED = set("""register mro elements open input law version_info with_traceback add_note attrgetter breakpoint builtins
    compile copyright credits delattr dir eval exec exit gc getattr globals hasattr help id importlib license locals
    methodcaller os quit setattr type vars sys""".split())
WORDS = set("""type typing typing_extensions enum Enum IntEnum StrEnum Flag IntFlag Generic Protocol ABC ABCMeta namedtuple
    NamedTuple TypedDict TYPE_CHECKING abstractmethod""".split())
STATEMENTS = (ast.Global, ast.AsyncFunctionDef, ast.AsyncFor, ast.AsyncWith, ast.Await, ast.Import)
TAKING_LISTS = {"any", "all", "min", "max", "sum", "sorted"}
NAMED = {name for name in vars(builtins) if not name.startswith("_")}


def files():
    return {path.stem: path.read_text(encoding="utf-8") for path in sorted(PACKAGE.glob("*.py"))}


def trees():
    return {name: ast.parse(text) for name, text in files().items()}


def bound_names(tree):
    """All names that a file binds anywhere, with their lines."""
    for node in ast.walk(tree):
        if isinstance(node, ast.Name) and isinstance(node.ctx, (ast.Store, ast.Del)):
            yield node.id, node.lineno
        elif isinstance(node, ast.arg):
            yield node.arg, node.lineno
        elif isinstance(node, (ast.FunctionDef, ast.ClassDef)):
            yield node.name, node.lineno


def imported(tree):
    return {alias.name for node in tree.body if isinstance(node, ast.ImportFrom) for alias in node.names}


class Language(unittest.TestCase):
    def test_files(self):
        for path in PACKAGE.iterdir():
            if path.name != "__pycache__":
                self.assertRegex(path.name, r"^[a-z_][a-z0-9_]*\.py$")
        self.assertLessEqual(len(files()), 100)

    def test_sizes_and_characters(self):
        for name, text in files().items():
            lines = text.split("\n")
            self.assertLessEqual(len(lines), 400, name)
            for at, line in enumerate(lines):
                self.assertLessEqual(len(line), 120, (name, at + 1))
                self.assertTrue(all(" " <= sign <= "~" for sign in line), (name, at + 1))
                self.assertNotRegex(line, r"_wall|_WallAttr|dataclass|overload|contextmanager|\(type\)|Meta|metaclass=")
            for node in ast.walk(ast.parse(text)):
                if isinstance(node, ast.FunctionDef):
                    self.assertLessEqual(node.end_lineno - node.lineno + 1, 40, (name, node.name))

    def test_module_level(self):
        for name, tree in trees().items():
            for at, node in enumerate(tree.body):
                docstring = at == 0 and isinstance(node, ast.Expr) and isinstance(node.value, ast.Constant)
                kinds = (ast.ImportFrom, ast.FunctionDef, ast.ClassDef, ast.Assign)
                self.assertTrue(docstring or isinstance(node, kinds), (name, node.lineno))

    def test_imports(self):
        found = trees()
        defined = {name: {node.name for node in tree.body if isinstance(node, (ast.FunctionDef, ast.ClassDef))}
                   for name, tree in found.items()}
        used = {}
        for name, tree in found.items():
            used[name] = set()
            for node in ast.walk(tree):
                if not isinstance(node, ast.ImportFrom):
                    continue
                self.assertEqual(node.level, 0)
                self.assertIn(node, tree.body)
                self.assertTrue(all(alias.asname is None for alias in node.names))
                wanted = {alias.name for alias in node.names}
                if node.module in LIBRARY:
                    self.assertLessEqual(wanted, LIBRARY[node.module])
                    continue
                top, file = node.module.split(".")
                self.assertEqual(top, "weirlines")
                used[name].add(file)
                constants = {target.id for part in found[file].body if isinstance(part, ast.Assign)
                             for target in part.targets}
                self.assertLessEqual(wanted, defined[file] | constants, (name, file))
            names = {node.id for node in ast.walk(tree) if isinstance(node, ast.Name)}
            self.assertLessEqual(imported(tree), names, f"{name} imports what it does not use")
        self.check_no_circle(used)

    def check_no_circle(self, used):
        left = {name: set(others) for name, others in used.items()}
        while left:
            free = [name for name, others in left.items() if not others & set(left)]
            self.assertTrue(free, f"files import one another: {sorted(left)}")
            left = {name: others for name, others in left.items() if name not in free}

    def test_statements_and_values(self):
        for name, tree in trees().items():
            for node in ast.walk(tree):
                told = (name, getattr(node, "lineno", 0))
                self.assertNotIsInstance(node, STATEMENTS, told)
                self.assertNotIsInstance(node, (ast.Div, ast.MatMult), told)
                if isinstance(node, ast.Try):
                    # No error of Python's own is caught anywhere; what is done at the end is plain.
                    self.assertEqual(node.handlers, [], told)
                    for part in ast.walk(ast.Module(node.finalbody, [])):
                        self.assertNotIsInstance(part, (ast.Call, ast.Subscript, ast.Return, ast.Raise, ast.For), told)
                if isinstance(node, ast.Constant):
                    self.assertNotIsInstance(node.value, (float, complex), told)
                    if isinstance(node.value, str):
                        self.assertNotIn(chr(37), node.value, told)
                        self.assertFalse(WORDS & set(re.findall(r"\w+", node.value)), told)
                if isinstance(node, ast.Compare):
                    for sign, right in zip(node.ops, node.comparators):
                        if isinstance(sign, (ast.Is, ast.IsNot)):
                            self.assertIsInstance(right, ast.Constant, told)
                if isinstance(node, (ast.FunctionDef, ast.ClassDef)):
                    self.assertEqual(node.decorator_list, [], told)

    def test_names(self):
        for name, tree in trees().items():
            outer = imported(tree) | {node.name for node in tree.body if isinstance(node, ast.ClassDef)}
            for node in ast.walk(tree):
                if isinstance(node, ast.arg) or isinstance(node, ast.Name) and isinstance(node.ctx, ast.Store):
                    self.assertNotIn(getattr(node, "arg", None) or node.id, outer, (name, node.lineno))
            for bound, line in bound_names(tree):
                self.assertFalse(bound in NAMED, (name, line, bound))
                self.assertNotIn(bound, BARRED | WORDS, (name, line))
                if bound.startswith("__"):
                    self.assertIn(bound, SPECIAL, (name, line))

    def test_each_name_is_bound_once(self):
        for name, tree in trees().items():
            told = []
            for node in tree.body:
                if isinstance(node, (ast.FunctionDef, ast.ClassDef)):
                    told.append(node.name)
                elif isinstance(node, ast.Assign):
                    self.assertEqual(len(node.targets), 1)
                    told.append(node.targets[0].id)
            told.extend(sorted(imported(tree)))
            self.assertEqual(len(told), len(set(told)), name)

    def test_calls(self):
        found = trees()
        own = {node.name for tree in found.values() for node in ast.walk(tree) if isinstance(node, ast.FunctionDef)}
        kept = {node.attr for tree in found.values() for node in ast.walk(tree) if isinstance(node, ast.Attribute)
                and isinstance(node.ctx, ast.Store)}
        kept |= {target.id for tree in found.values() for node in ast.walk(tree) if isinstance(node, ast.ClassDef)
                 for part in node.body if isinstance(part, ast.Assign) for target in part.targets}
        for name, tree in found.items():
            for node in ast.walk(tree):
                if isinstance(node, ast.Name) and isinstance(node.ctx, ast.Load) and node.id in NAMED:
                    self.assertIn(node.id, BUILTINS, (name, node.lineno))
                if isinstance(node, ast.Attribute) and isinstance(node.ctx, ast.Load):
                    self.assertIn(node.attr, own | kept | METHODS, (name, node.lineno))
                if not isinstance(node, ast.Call):
                    continue
                if isinstance(node.func, ast.Name) and node.func.id in TAKING_LISTS:
                    for told in node.args:
                        self.assertNotIsInstance(told, ast.GeneratorExp, (name, node.lineno))
                if isinstance(node.func, ast.Attribute) and node.func.attr in METHODS:
                    self.assertEqual(node.keywords, [], (name, node.lineno))

    def test_methods_are_no_attributes(self):
        found = {node.name: node for tree in trees().values() for node in ast.walk(tree) if isinstance(node, ast.ClassDef)}
        for name, node in found.items():
            family = [node] + [found[base.id] for base in node.bases if getattr(base, "id", None) in found]
            methods = {part.name for one in family for part in one.body if isinstance(part, ast.FunctionDef)}
            kept = {part.attr for one in family for part in ast.walk(one) if isinstance(part, ast.Attribute)
                    and isinstance(part.ctx, ast.Store) and getattr(part.value, "id", None) == "self"}
            self.assertFalse(methods & kept, name)
            self.assertFalse({"items", "keys", "values", "args", "format", "hex"} & kept, name)

    def test_operators_change_nothing(self):
        for name, tree in trees().items():
            for node in ast.walk(tree):
                if isinstance(node, ast.FunctionDef) and node.name in SPECIAL - {"__init__", "__call__"}:
                    for part in ast.walk(node):
                        stored = isinstance(part, (ast.Attribute, ast.Subscript)) and not isinstance(part.ctx, ast.Load)
                        self.assertFalse(stored or isinstance(part, (ast.AugAssign, ast.Yield)), (name, part))

    def test_generators_are_iterated_at_once(self):
        found = trees()
        generators = {part.name for tree in found.values() for part in ast.walk(tree) if isinstance(part, ast.FunctionDef)
                      and any(isinstance(node, (ast.Yield, ast.YieldFrom)) for node in ast.walk(part))}
        heads = (ast.For, ast.comprehension)
        for name, tree in found.items():
            iterated = [node.iter for node in ast.walk(tree) if isinstance(node, heads)]
            for node in ast.walk(tree):
                if isinstance(node, ast.Call) and isinstance(node.func, ast.Name) and node.func.id in generators:
                    self.assertIn(node, iterated, (name, node.lineno))
            for bound, line in bound_names(ast.Module([node for node in tree.body if not
                                                       isinstance(node, ast.FunctionDef)], [])):
                self.assertNotIn(bound, generators, (name, line))
