"""The package keeps to the small part of Python that LANGUAGE.md tells; rules are named by their numbers."""

import ast
import builtins
import pathlib
import re
import unittest

PACKAGE = pathlib.Path(__file__).resolve().parent.parent / "whoknows"
FILES = sorted(PACKAGE.glob("*.py"))

NODES = """Module Expr Assign ImportFrom alias FunctionDef ClassDef arguments arg If While For Return Break Continue Pass
    Raise Try ExceptHandler Call keyword Constant List Tuple Dict Name Load Store Attribute Subscript Slice BinOp BoolOp
    UnaryOp Compare IfExp ListComp comprehension Lambda JoinedStr FormattedValue Add Sub Mult FloorDiv Mod Pow BitAnd
    BitOr BitXor Invert LShift RShift And Or Not USub Eq NotEq Lt LtE Gt GtE In NotIn Is IsNot""".split()
OWN_NAMES = """len range enumerate zip min max sum abs sorted reversed int str bool list tuple dict set frozenset isinstance
    ord repr any all divmod Exception ValueError TypeError KeyError IndexError LookupError ZeroDivisionError
    ArithmeticError OverflowError RuntimeError NotImplementedError StopIteration""".split()
METHODS = """append clear copy count endswith extend find get index insert isalnum isalpha isdigit islower isspace isupper
    items join keys ljust lower lstrip partition pop remove replace reverse rfind rjust rpartition rsplit rstrip
    setdefault split splitlines startswith strip update upper values zfill bit_length""".split()
WORDS = """type typing typing_extensions enum Enum IntEnum StrEnum Flag IntFlag Generic Protocol ABC ABCMeta namedtuple
    NamedTuple TypedDict TYPE_CHECKING abstractmethod register mro elements open input version_info with_traceback
    add_note""".split()
TAKEN = sorted({name for kind in (str, int, list, dict, set, bytes) for name in dir(kind)})


def parsed():
    return [(path, ast.parse(path.read_text())) for path in FILES]


def walked(*kinds):
    return [(path.name, node) for path, module in parsed() for node in ast.walk(module) if isinstance(node, kinds)]


def top_names(module):
    found = []
    for node in module.body:
        if isinstance(node, (ast.FunctionDef, ast.ClassDef)):
            found.append(node.name)
        elif isinstance(node, ast.Assign):
            found.append(node.targets[0].id)
        elif isinstance(node, ast.ImportFrom):
            found += [each.name for each in node.names]
    return found


class Language(unittest.TestCase):
    def test_files(self):
        """L1, L10, L14, L17."""
        inside = [path for path in PACKAGE.iterdir() if path.name != "__pycache__"]
        self.assertEqual(sorted(inside), FILES)
        self.assertIn("__init__.py", [path.name for path in FILES])
        for path in FILES:
            self.assertRegex(path.stem, "^(__init__|[a-z][a-z0-9_]*)$")
            self.assertNotIn(path.stem, dir(builtins))
            text = path.read_text()
            self.assertTrue(all(sign == "\n" or " " <= sign <= "~" for sign in text), path.name)
            self.assertLessEqual(len(text.splitlines()), 400)
            self.assertLessEqual(max(len(line) for line in text.splitlines()), 120)
            self.assertEqual(set(re.findall(r"\w+", text)) & set(WORDS), set())
            self.assertIsNone(re.search("dataclass|overload|contextmanager", text))

    def test_forms(self):
        """L3, L4, L5, L6, L7, L20, L21, L27."""
        for name, node in walked(ast.AST):
            self.assertIn(node.__class__.__name__, NODES, f"{name}: {getattr(node, 'lineno', '')}")
        for name, node in walked(ast.Assign):
            self.assertEqual(len(node.targets), 1)
        for name, node in walked(ast.For, ast.While):
            self.assertEqual(node.orelse, [])
        for name, node in walked(ast.ListComp):
            self.assertEqual(len(node.generators), 1)
            self.assertLessEqual(len(node.generators[0].ifs), 1)
        for name, node in walked(ast.Compare):
            for sign, right in zip(node.ops, node.comparators):
                if isinstance(sign, (ast.Is, ast.IsNot)):
                    self.assertIsInstance(right, ast.Constant)
                    self.assertIn(right.value, (None, True, False))
        for name, node in walked(ast.Constant):
            self.assertIsInstance(node.value, (int, str, type(None)))
        for name, node in walked(ast.BinOp):
            self.assertNotIsInstance(node.op, ast.Pow)

    def test_functions(self):
        """L4, L10, L21."""
        for name, node in walked(ast.FunctionDef):
            self.assertLessEqual(node.end_lineno - node.lineno + 1, 40, node.name)
            self.assertEqual(node.decorator_list, [])
            self.assertIsNone(node.returns)
            given = node.args
            self.assertEqual((given.vararg, given.kwarg, given.kwonlyargs, given.posonlyargs), (None, None, [], []))
            self.assertTrue(all(each.annotation is None for each in given.args))

    def test_top_of_a_file(self):
        """L3, L15, L16."""
        for path, module in parsed():
            self.assertIsInstance(module.body[0].value, ast.Constant)
            for node in module.body[1:]:
                self.assertIsInstance(node, (ast.ImportFrom, ast.FunctionDef, ast.ClassDef, ast.Assign))
                if isinstance(node, ast.Assign):
                    ast.literal_eval(node.value)
            names = top_names(module)
            self.assertEqual(len(names), len(set(names)), path.name)

    def test_imports(self):
        """L2, L16: from the file that defines the name, and never in a ring."""
        own = {path.stem: module for path, module in parsed()}
        drawn = {}
        for stem, module in own.items():
            rows = [node for node in ast.walk(module) if isinstance(node, ast.ImportFrom)]
            drawn[stem] = {row.module.removeprefix("whoknows.") for row in rows} | {"__init__"} - {stem}
            for row in rows:
                self.assertEqual((row.level, row.module.split(".")[0]), (0, "whoknows"))
                defined = [node for node in own[row.module.split(".")[1]].body if not isinstance(node, ast.ImportFrom)]
                names = top_names(ast.Module(defined, []))
                self.assertTrue(all(each.name in names and each.asname is None for each in row.names))
        while drawn:
            free = [stem for stem in drawn if not drawn[stem] & set(drawn)]
            self.assertNotEqual(free, [], "files draw from one another")
            drawn = {stem: drawn[stem] for stem in drawn if stem not in free}

    def test_names(self):
        """L8, L12, L15."""
        for path, module in parsed():
            top = set(top_names(module))
            methods = {each.name for node in module.body if isinstance(node, ast.ClassDef) for each in node.body
                       if isinstance(each, ast.FunctionDef)}
            self.assertTrue(all(re.match("^([A-Za-z][A-Za-z0-9_]*|__init__)$", name) for name in top | methods))
            for node in ast.walk(module):
                if isinstance(node, ast.FunctionDef):
                    local = {each.id for each in ast.walk(node)
                             if isinstance(each, ast.Name) and isinstance(each.ctx, ast.Store)}
                    local |= {each.arg for each in node.args.args}
                    self.assertEqual(local & (top | set(dir(builtins))), set(), f"{path.name}: {node.name}")
                    self.assertTrue(all(re.match("^[A-Za-z][A-Za-z0-9_]*$", name) for name in local))
                if isinstance(node, ast.Name) and node.id in dir(builtins):
                    self.assertIn(node.id, OWN_NAMES, f"{path.name}: {node.lineno}")

    def test_methods_and_values(self):
        """L18, L25, L26."""
        methods = {each.name for name, node in walked(ast.ClassDef) for each in node.body
                   if isinstance(each, ast.FunctionDef)} - {"__init__"}
        values = {node.attr for name, node in walked(ast.Attribute) if isinstance(node.ctx, ast.Store)}
        self.assertEqual(methods & values, set())
        self.assertEqual((methods | values) & set(TAKEN), set())
        for name, node in walked(ast.Attribute):
            self.assertIn(node.attr, methods | values | set(METHODS), f"{name}: {node.lineno}")
        for path, module in parsed():
            called = [node.func for node in ast.walk(module) if isinstance(node, ast.Call)]
            for node in ast.walk(module):
                if isinstance(node, ast.Attribute) and node.attr in methods | set(METHODS):
                    self.assertIn(node, called, f"{path.name}: {node.lineno}: a method is handed on")

    def test_loops_do_not_change_what_they_walk(self):
        """L23."""
        for name, node in walked(ast.For):
            walked_names = {ast.unparse(each) for each in ast.walk(node.iter)
                            if isinstance(each, (ast.Name, ast.Attribute))}
            for each in ast.walk(ast.Module(node.body, [])):
                if isinstance(each, ast.Call) and isinstance(each.func, ast.Attribute):
                    if each.func.attr in ("append", "pop", "extend", "insert", "remove", "clear", "update"):
                        self.assertNotIn(ast.unparse(each.func.value), walked_names, f"{name}: {each.lineno}")

    def test_keywords(self):
        """L22."""
        allowed = {"sorted": ("key", "reverse"), "min": ("key", "default"), "max": ("key", "default"), "sum": ("start",),
                   "enumerate": ("start",), "zip": ("strict",)}
        for name, node in walked(ast.Call):
            if node.keywords:
                self.assertIsInstance(node.func, ast.Name, f"{name}: {node.lineno}")
                for each in node.keywords:
                    self.assertIn(each.arg, allowed.get(node.func.id, ()), f"{name}: {node.lineno}")

    def test_own_names_are_called_where_they_stand(self):
        """L18, L22: neither classes nor Python's own names are kept as values."""
        classes = {node.name for name, node in walked(ast.ClassDef)}
        for path, module in parsed():
            fine = []
            for node in ast.walk(module):
                if isinstance(node, ast.Call):
                    fine.append(node.func)
                    if isinstance(node.func, ast.Name) and node.func.id == "isinstance":
                        fine += list(ast.walk(node.args[1]))
                elif isinstance(node, ast.ClassDef):
                    fine += node.bases
            for node in ast.walk(module):
                if isinstance(node, ast.Name) and node.id in classes | set(OWN_NAMES):
                    self.assertIn(node, fine, f"{path.name}: {node.lineno}: {node.id}")

    def test_walked_on_the_spot(self):
        """L23, L24."""
        takers = ("list", "tuple", "dict", "sorted", "sum", "any", "all", "enumerate", "zip", "min", "max")
        for path, module in parsed():
            fine = []
            for node in ast.walk(module):
                if isinstance(node, (ast.For, ast.comprehension)):
                    fine.append(node.iter)
                if isinstance(node, ast.Call) and isinstance(node.func, ast.Name) and node.func.id in takers:
                    fine += node.args[:1]
            for node in ast.walk(module):
                if isinstance(node, ast.Call):
                    name = node.func.id if isinstance(node.func, ast.Name) else node.func.attr
                    self.assertNotIn(name, ("set", "frozenset"))
                    if name in ("zip", "enumerate", "reversed", "range", "items", "keys", "values"):
                        self.assertIn(node, fine, f"{path.name}: {node.lineno}")

    def test_names_of_a_top_are_only_read(self):
        """L15: a list or dict there holds none itself, and no def changes it."""
        for path, module in parsed():
            kept = {}
            for node in module.body:
                if isinstance(node, ast.Assign):
                    kept[node.targets[0].id] = ast.literal_eval(node.value)
            for value in kept.values():
                inner = value.values() if isinstance(value, dict) else value if isinstance(value, (list, tuple)) else ()
                self.assertFalse(any(isinstance(each, (list, dict)) for each in inner))
            for node in ast.walk(module):
                if isinstance(node, (ast.Attribute, ast.Subscript)) and isinstance(node.value, ast.Name):
                    if node.value.id in kept:
                        self.assertIsInstance(node.ctx, ast.Load)
                        self.assertIsInstance(node, ast.Subscript)


if __name__ == "__main__":
    unittest.main()
