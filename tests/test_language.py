"""The package's files, held against the part of Python that they keep to (what can be seen of its rules)."""

import ast
import re
import tokenize
import unittest
from pathlib import Path

PACKAGE = Path(__file__).resolve().parent.parent / "markscale"
ERRORS = set("Exception ValueError TypeError KeyError IndexError LookupError ZeroDivisionError ArithmeticError "
             "OverflowError RuntimeError NotImplementedError AttributeError StopIteration".split())
OWN = ERRORS | set("len range enumerate zip min max sum abs sorted reversed int str bool list tuple dict set frozenset "
                   "isinstance ord repr any all divmod True False None".split())
METHODS = set("append clear copy count endswith extend find get index insert isalnum isalpha isdigit islower isspace "
              "isupper items join keys ljust lower lstrip partition pop remove replace reverse rfind rjust rpartition "
              "rsplit rstrip setdefault split splitlines startswith strip update upper values zfill bit_length".split())
NODES = set("Module Expr Constant ImportFrom alias FunctionDef arguments arg Return Assign AugAssign If While For Break "
            "Continue Pass Raise Try ExceptHandler Call Name Load Store Attribute Subscript Slice List Tuple Dict Set "
            "ListComp comprehension BinOp UnaryOp BoolOp Compare IfExp JoinedStr FormattedValue Lambda ClassDef keyword "
            "And Or Not Add Sub Mult FloorDiv Mod Pow BitAnd BitOr BitXor LShift RShift Invert USub UAdd "
            "Eq NotEq Lt LtE Gt GtE Is IsNot In NotIn".split())
WORDS_OUT = re.compile(r"\b(type|typing|typing_extensions|enum|Enum|IntEnum|StrEnum|Flag|IntFlag|Generic|Protocol|ABC|"
                       r"ABCMeta|namedtuple|NamedTuple|TypedDict|TYPE_CHECKING|abstractmethod)\b"
                       r"|dataclass|overload|contextmanager")
NAMES_OUT = set("register mro elements open input version_info with_traceback add_note attrgetter breakpoint builtins "
                "compile copyright credits delattr dir eval exec exit gc getattr globals hasattr help id importlib "
                "license locals methodcaller os quit setattr super type vars sys __name__ print chr".split())
DUNDERS = {"__init__", "__eq__", "__repr__", "__str__", "__len__"}
WALKED = {"zip", "enumerate", "reversed", "range"}
WALKERS = {"list", "tuple", "dict", "sorted", "sum", "any", "all", "enumerate", "zip", "min", "max", "set"}
MAY_BE_VALUES = set("count index title find get join lower upper split strip copy add".split())
PYTHONS = {name for kind in (str, int, list, dict, set, bytes) for name in dir(kind)}
BUILTINS = set(dir(__builtins__)) if not isinstance(__builtins__, dict) else set(__builtins__)


def files():
    return sorted(PACKAGE.rglob("*.py"))


def tree_of(path):
    return ast.parse(path.read_text(encoding="utf-8"), filename=str(path))


def parents_of(tree):
    found = {}
    for node in ast.walk(tree):
        for child in ast.iter_child_nodes(node):
            found[child] = node
    return found


def is_plain(node):
    """Whether a node is a plain value: a number, a text, a truth, None, or a list, tuple or dict of such."""
    if isinstance(node, (ast.List, ast.Tuple)):
        return all(is_plain(part) for part in node.elts)
    if isinstance(node, ast.Dict):
        return all(is_plain(part) for part in node.keys + node.values)
    if isinstance(node, ast.UnaryOp) and isinstance(node.op, ast.USub):
        return is_plain(node.operand)
    return isinstance(node, (ast.Constant, ast.Name))


def own_names():
    """The names of the methods, and of the values given to self, in all classes of the package."""
    methods, values = set(), set()
    for path in files():
        for part in ast.walk(tree_of(path)):
            if isinstance(part, ast.ClassDef):
                methods |= {node.name for node in part.body if isinstance(node, ast.FunctionDef)} - DUNDERS
                values |= {node.attr for node in ast.walk(part) if isinstance(node, ast.Attribute)
                           and isinstance(node.ctx, ast.Store) and isinstance(node.value, ast.Name) and node.value.id == "self"}
    return methods, values


class Language(unittest.TestCase):
    def bad(self, path, node, rule):
        self.fail(f"{rule} {path.name}:{getattr(node, 'lineno', 0)}")

    def each_node(self):
        for path in files():
            for node in ast.walk(tree_of(path)):
                yield path, node

    def test_there_are_files(self):
        self.assertGreater(len(files()), 1)

    def test_files_lie_as_they_should(self):
        for path in PACKAGE.rglob("*"):
            if "__pycache__" not in path.parts:
                self.assertRegex(path.name, r"^[a-z0-9_]+\.py$")
        self.assertTrue((PACKAGE / "__init__.py").exists())

    def test_signs_and_sizes(self):
        for path in files():
            rows = path.read_bytes().decode("ascii").split("\n")
            self.assertLessEqual(len(rows), 401, path.name)
            for at, row in enumerate(rows, 1):
                self.assertTrue(all(" " <= sign <= "~" for sign in row), f"{path.name}:{at}")
                self.assertLessEqual(len(row), 120, f"{path.name}:{at}")
                self.assertIsNone(WORDS_OUT.search(row), f"L17 {path.name}:{at}")

    def test_functions_are_short(self):
        for path, node in self.each_node():
            if isinstance(node, ast.FunctionDef):
                self.assertLessEqual(node.end_lineno - node.lineno + 1, 40, f"{path.name}:{node.lineno}")

    def test_nodes_are_allowed(self):
        for path, node in self.each_node():
            if type(node).__name__ not in NODES:
                self.bad(path, node, type(node).__name__)

    def test_top_of_files(self):
        for path in files():
            bound = []
            for node in tree_of(path).body:
                if isinstance(node, ast.Assign):
                    if not is_plain(node.value):
                        self.bad(path, node, "L3")
                    bound.append(node.targets[0].id)
                elif isinstance(node, (ast.FunctionDef, ast.ClassDef)):
                    bound.append(node.name)
                elif isinstance(node, ast.ImportFrom):
                    bound.extend(alias.asname or alias.name for alias in node.names)
                elif not (isinstance(node, ast.Expr) and isinstance(node.value, ast.Constant)):
                    self.bad(path, node, "L3")
            self.assertEqual(len(bound), len(set(bound)), f"L15 {path.name}")

    def test_imports(self):
        drawn = {}
        for path in files():
            drawn[path.stem] = []
            defined = {}
            for node in ast.walk(tree_of(path)):
                if isinstance(node, ast.ImportFrom):
                    self.assertEqual(node.level, 0)
                    self.assertTrue(node.module.startswith("markscale."), f"L2 {path.name}:{node.lineno}")
                    stem = node.module.split(".", 1)[1]
                    drawn[path.stem].append(stem)
                    tops = [part for part in tree_of(PACKAGE / f"{stem}.py").body if not isinstance(part, ast.ImportFrom)]
                    defined = {part.name for part in tops if isinstance(part, (ast.FunctionDef, ast.ClassDef))}
                    defined |= {part.targets[0].id for part in tops if isinstance(part, ast.Assign)}
                    for alias in node.names:
                        self.assertIn(alias.name, defined, f"L16 {path.name}:{node.lineno}")
                        self.assertIsNone(alias.asname)
        self.assertEqual(drawn["__init__"], [])
        for stem in drawn:
            waiting, seen = list(drawn[stem]), set()
            while waiting:
                other = waiting.pop()
                self.assertNotEqual(other, stem, f"L16 round {stem}")
                if other not in seen:
                    seen.add(other)
                    waiting.extend(drawn[other])

    def test_imports_are_used(self):
        for path in files():
            tree = tree_of(path)
            used = {node.id for node in ast.walk(tree) if isinstance(node, ast.Name)}
            for node in tree.body:
                if isinstance(node, ast.ImportFrom):
                    for alias in node.names:
                        self.assertIn(alias.name, used, path.name)

    def test_names(self):
        for path in files():
            tree = tree_of(path)
            tops = {node.name for node in tree.body if isinstance(node, ast.ClassDef)}
            for node in tree.body:
                if isinstance(node, ast.ImportFrom):
                    tops |= {alias.name for alias in node.names}
            for node in ast.walk(tree):
                if isinstance(node, ast.Name):
                    self.check_name(path, node, node.id, isinstance(node.ctx, ast.Store), tops)
                if isinstance(node, ast.arg):
                    self.check_name(path, node, node.arg, True, tops)
                if isinstance(node, ast.FunctionDef) and node.name not in DUNDERS:
                    self.check_name(path, node, node.name, False, tops)

    def check_name(self, path, node, name, binds, tops):
        if name in NAMES_OUT or name.startswith("_"):
            self.bad(path, node, f"L12, L17 {name}")
        if binds and (name in tops or name in BUILTINS):
            self.bad(path, node, f"L15 {name}")
        if not binds and name in BUILTINS and name not in OWN:
            self.bad(path, node, f"L8 {name}")

    def test_functions_are_plain(self):
        for path, node in self.each_node():
            if isinstance(node, (ast.FunctionDef, ast.Lambda)):
                rest = node.args
                if rest.vararg or rest.kwarg or rest.kwonlyargs or rest.posonlyargs:
                    self.bad(path, node, "L4")
                if not all(is_plain(value) for value in rest.defaults):
                    self.bad(path, node, "L4")
                if any(arg.annotation for arg in rest.args):
                    self.bad(path, node, "L21")
            if isinstance(node, (ast.FunctionDef, ast.ClassDef)) and node.decorator_list:
                self.bad(path, node, "L4, L5")

    def test_classes_are_plain(self):
        for path, node in self.each_node():
            if isinstance(node, ast.ClassDef):
                if len(node.bases) > 1 or node.keywords:
                    self.bad(path, node, "L5")
                for part in node.body:
                    doc = isinstance(part, ast.Expr) and isinstance(part.value, ast.Constant)
                    if not doc and not isinstance(part, ast.FunctionDef):
                        self.bad(path, part, "L5")

    def test_statements(self):
        for path, node in self.each_node():
            if isinstance(node, ast.Assign) and (len(node.targets) != 1 or isinstance(node.targets[0], ast.Tuple)):
                self.bad(path, node, "L6")
            if isinstance(node, (ast.For, ast.While)) and node.orelse:
                self.bad(path, node, "L6")
            if isinstance(node, ast.Try):
                if node.finalbody or any(handler.type is None for handler in node.handlers):
                    self.bad(path, node, "L6")
                for handler in node.handlers:
                    if isinstance(handler.type, ast.Name) and handler.type.id in ("Exception", "TypeError"):
                        self.bad(path, node, "L19")
            if isinstance(node, ast.ListComp) and (len(node.generators) != 1 or len(node.generators[0].ifs) > 1):
                self.bad(path, node, "L7")

    def test_values(self):
        for path, node in self.each_node():
            if isinstance(node, ast.Constant) and isinstance(node.value, (float, complex, bytes)):
                self.bad(path, node, "L7")
            if isinstance(node, ast.Constant) and isinstance(node.value, str) and "%" in node.value:
                self.bad(path, node, "L27")
            if isinstance(node, ast.FormattedValue):
                if not isinstance(node.value, ast.Name) or node.format_spec or node.conversion not in (-1, ord("r")):
                    self.bad(path, node, "L7")
            if isinstance(node, ast.BinOp) and isinstance(node.op, ast.Pow):
                if not isinstance(node.right, ast.Constant) or not 0 <= node.right.value <= 64:
                    self.bad(path, node, "L27")
            if isinstance(node, ast.Compare):
                sides = [node.left] + node.comparators
                for at, sign in enumerate(node.ops):
                    near = [side for side in sides[at:at + 2] if isinstance(side, ast.Constant)]
                    if isinstance(sign, (ast.Is, ast.IsNot)) and not any(side.value in (None, True, False) for side in near):
                        self.bad(path, node, "L20")

    def test_own_methods_and_values(self):
        methods, values = own_names()
        self.assertEqual(methods & values, set(), "L18")
        self.assertEqual(values & (PYTHONS - MAY_BE_VALUES), set(), "L26")
        self.assertEqual(methods & (PYTHONS - METHODS - {"add", "discard"}), set(), "L26")

    def test_calls(self):
        methods, values = own_names()
        for path in files():
            tree = tree_of(path)
            parents = parents_of(tree)
            for node in ast.walk(tree):
                if isinstance(node, ast.Attribute):
                    self.check_attribute(path, node, parents, METHODS | methods, values)
                if isinstance(node, ast.Call) and isinstance(node.func, ast.Name):
                    self.check_call(path, node, parents)
                if isinstance(node, ast.Name) and node.id in OWN - ERRORS - {"True", "False", "None"}:
                    parent = parents[node]
                    as_key = isinstance(parent, ast.keyword) and parent.arg == "key"
                    in_check = node.id in ("int", "str", "bool", "list", "tuple", "dict")
                    if not (isinstance(parent, (ast.Call, ast.Tuple)) or as_key):
                        self.bad(path, node, "L22")
                    if isinstance(parent, ast.Call) and parent.func != node and not in_check:
                        self.bad(path, node, "L22")

    def check_attribute(self, path, node, parents, methods, values):
        parent = parents[node]
        called = isinstance(parent, ast.Call) and parent.func == node
        if called and node.attr not in methods:
            self.bad(path, node, f"L25 {node.attr}")
        if not called and node.attr not in values:
            self.bad(path, node, f"L25 {node.attr}")
        if isinstance(node.ctx, ast.Store) and not isinstance(node.value, ast.Name):
            self.bad(path, node, f"L18 {node.attr}")
        if called and parent.keywords:
            self.bad(path, node, "L22")

    def check_call(self, path, node, parents):
        parent = parents[node]
        if node.func.id in WALKED:
            walked = isinstance(parent, (ast.For, ast.comprehension)) and parent.iter == node
            inside = isinstance(parent, ast.Call) and isinstance(parent.func, ast.Name) and parent.func.id in WALKERS
            if not (walked or (inside and parent.args[0] == node)):
                self.bad(path, node, "L23")
        if node.func.id in ("set", "frozenset"):
            beside = isinstance(parent, (ast.Compare, ast.BinOp))
            inside = isinstance(parent, ast.Call) and isinstance(parent.func, ast.Name) and parent.func.id in ("len", "sorted")
            if not (beside or inside):
                self.bad(path, node, "L24")
        allowed = {"sorted": {"key", "reverse"}, "min": {"key", "default"}, "max": {"key", "default"}, "sum": {"start"},
                   "enumerate": {"start"}, "zip": {"strict"}}
        if node.func.id in OWN:
            for keyword in node.keywords:
                self.assertIn(keyword.arg, allowed.get(node.func.id, set()), f"L22 {path.name}:{node.lineno}")

    def test_no_odd_escapes(self):
        for path in files():
            with tokenize.open(path) as rows:
                for token in tokenize.generate_tokens(rows.readline):
                    if token.type == tokenize.STRING:
                        for escape in re.findall(r"\\(.)", token.string, re.S):
                            self.assertIn(escape, "nt\\'\"", f"L27 {path.name}:{token.start[0]}")


if __name__ == "__main__":
    unittest.main()
