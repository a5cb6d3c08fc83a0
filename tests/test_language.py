"""The form of the package's files, as far as a short look can tell it: rules L1 to L28 of LANGUAGE.md."""

import ast
import builtins
import pathlib
import re
import unittest

FOLDER = pathlib.Path(__file__).resolve().parent.parent / "dipkin"
FILES = sorted(FOLDER.rglob("*.py"))

OWN_NAMES = set(
    "len range enumerate zip min max sum abs sorted reversed int str bool bytes list tuple dict set isinstance ord "
    "repr any all divmod Exception ValueError TypeError KeyError IndexError LookupError ZeroDivisionError "
    "ArithmeticError OverflowError RuntimeError NotImplementedError AttributeError StopIteration".split())
METHODS = set(
    "append clear copy count endswith extend find get index insert isalnum isalpha isdigit islower isspace isupper "
    "items join keys ljust lower lstrip partition pop remove replace reverse rfind rjust rpartition rsplit rstrip "
    "setdefault split splitlines startswith strip update upper values zfill bit_length add discard sort "
    "title capitalize swapcase casefold center expandtabs removeprefix removesuffix rindex isascii isdecimal "
    "isnumeric istitle isidentifier isprintable".split())
NO_WORDS = (
    r"\b(type|typing|typing_extensions|enum|Enum|IntEnum|StrEnum|Flag|IntFlag|Generic|Protocol|ABC|ABCMeta|namedtuple"
    r"|NamedTuple|TypedDict|TYPE_CHECKING|abstractmethod)\b|dataclass|overload|contextmanager")
NO_NAMES = set(
    "register mro elements open input version_info with_traceback add_note attrgetter breakpoint builtins compile "
    "copyright credits delattr dir eval exec exit gc getattr globals hasattr help id importlib license locals "
    "methodcaller os quit setattr super sys type vars format format_map print chr frozenset".split())
NODES = (
    ast.Module, ast.FunctionDef, ast.ClassDef, ast.arguments, ast.arg, ast.Return, ast.Assign, ast.AugAssign, ast.Delete,
    ast.For, ast.While, ast.If, ast.Raise, ast.Try, ast.ExceptHandler, ast.ImportFrom, ast.alias, ast.Expr, ast.Pass,
    ast.Break, ast.Continue, ast.Assert, ast.BoolOp, ast.BinOp, ast.UnaryOp, ast.IfExp, ast.Dict, ast.Set, ast.ListComp,
    ast.DictComp, ast.SetComp, ast.comprehension, ast.Compare, ast.Call, ast.keyword, ast.FormattedValue, ast.JoinedStr,
    ast.Constant, ast.Attribute, ast.Subscript, ast.Starred, ast.Name, ast.List, ast.Tuple, ast.Slice, ast.Lambda,
    ast.expr_context, ast.boolop, ast.operator, ast.unaryop, ast.cmpop)
WALKED = ("zip", "enumerate", "reversed", "range")
WALKERS = ("list", "tuple", "dict", "sorted", "sum", "any", "all", "enumerate", "zip", "bytes", "min", "max")


def parse(path):
    tree = ast.parse(path.read_text())
    for node in ast.walk(tree):
        for child in ast.iter_child_nodes(node):
            child.parent = node
    return tree


def nodes(kinds):
    """Each node of these kinds, with where it stands."""
    for path in FILES:
        for node in ast.walk(parse(path)):
            if isinstance(node, kinds):
                yield f"{path.name}:{getattr(node, 'lineno', 0)}", node


def top_names(path):
    """The names that a file gives at its top."""
    found = []
    for node in parse(path).body:
        if isinstance(node, (ast.FunctionDef, ast.ClassDef)):
            found.append(node.name)
        elif isinstance(node, ast.Assign):
            found += [target.id for target in node.targets]
    return found


def drawn(path):
    return [(node.module, [alias.name for alias in node.names]) for node in parse(path).body
            if isinstance(node, ast.ImportFrom)]


def path_of(module):
    return FOLDER.parent / (module.replace(".", "/") + ".py")


class Files(unittest.TestCase):
    def test_l1_l14_files(self):
        self.assertTrue((FOLDER / "__init__.py").is_file())
        for path in FOLDER.rglob("*"):
            if "__pycache__" not in path.parts:
                self.assertRegex(path.name, r"^([a-z][a-z0-9_]*|__init__|__main__)\.py$")

    def test_l10_l14_sizes_and_signs(self):
        for path in FILES:
            text = path.read_text()
            self.assertRegex(text, r"\A[\n -~]*\Z", path.name)
            self.assertLessEqual(len(text.splitlines()), 400, path.name)
            self.assertLessEqual(max(map(len, text.splitlines())), 120, path.name)
        for where, node in nodes(ast.FunctionDef):
            self.assertLessEqual(node.end_lineno - node.lineno + 1, 40, where)

    def test_l17_words(self):
        for path in FILES:
            self.assertIsNone(re.search(NO_WORDS, path.read_text()), path.name)

    def test_l2_l16_imports(self):
        for path in FILES:
            for module, names in drawn(path):
                self.assertTrue(module.startswith("dipkin."), path.name)
                for name in names:
                    self.assertIn(name, top_names(path_of(module)), path.name)

    def test_l16_no_two_files_draw_from_one_another(self):
        left = {path: {path_of(module) for module, _ in drawn(path)} for path in FILES}
        while left:
            free = [path for path in left if not left[path] & set(left)]
            self.assertTrue(free, "files draw from one another")
            for path in free:
                del left[path]

    def test_l3_l15_tops(self):
        for path in FILES:
            body = parse(path).body
            self.assertIsInstance(body[0], ast.Expr, path.name)
            for node in body[1:]:
                self.assertIsInstance(node, (ast.ImportFrom, ast.FunctionDef, ast.ClassDef, ast.Assign), path.name)
            names = top_names(path) + [name for _, many in drawn(path) for name in many]
            self.assertEqual(len(names), len(set(names)), path.name)


class Rows(unittest.TestCase):
    def test_l6_l7_kinds_of_rows(self):
        for where, node in nodes(ast.AST):
            self.assertIsInstance(node, NODES, where)
            self.assertNotIsInstance(node, (ast.Div, ast.MatMult), where)
        for where, node in nodes((ast.For, ast.While)):
            self.assertFalse(node.orelse, where)

    def test_l4_l5_l21_defs_and_classes(self):
        for where, node in nodes(ast.FunctionDef):
            given = node.args
            self.assertFalse(node.decorator_list or given.posonlyargs or given.vararg or given.kwarg, where)
            self.assertIsNone(node.returns, where)
        for where, node in nodes(ast.ClassDef):
            self.assertLessEqual(len(node.bases), 1, where)
            self.assertFalse(node.decorator_list or node.keywords, where)
            for part in node.body:
                self.assertIsInstance(part, (ast.FunctionDef, ast.Expr), where)

    def test_l7_l27_values(self):
        for where, node in nodes(ast.Constant):
            self.assertNotIsInstance(node.value, (float, complex), where)
            if isinstance(node.value, str):
                self.assertNotIn(chr(37), node.value, where)
        for where, node in nodes(ast.FormattedValue):
            self.assertIsNone(node.format_spec, where)
        for where, node in nodes(ast.BinOp):
            if isinstance(node.op, ast.Pow):
                self.assertIsInstance(node.right, ast.Constant, where)

    def test_l8_l12_l15_names(self):
        pythons = set(dir(builtins))
        for path in FILES:
            tree = parse(path)
            held = {name for _, many in drawn(path) for name in many}
            held |= {node.name for node in tree.body if isinstance(node, ast.ClassDef)}
            for node in ast.walk(tree):
                where = f"{path.name}:{getattr(node, 'lineno', 0)}"
                if isinstance(node, ast.arg) or isinstance(node, ast.Name) and isinstance(node.ctx, ast.Store):
                    name = node.arg if isinstance(node, ast.arg) else node.id
                    self.assertRegex(name, r"^[A-Za-z][A-Za-z0-9_]*$", where)
                    self.assertNotIn(name, pythons | held | NO_NAMES, where)
                elif isinstance(node, ast.Name) and node.id in pythons:
                    self.assertIn(node.id, OWN_NAMES, where)
                elif isinstance(node, ast.FunctionDef):
                    self.assertNotIn(node.name, pythons | held | NO_NAMES, where)

    def test_l20_is(self):
        for where, node in nodes(ast.Compare):
            if any(isinstance(sign, (ast.Is, ast.IsNot)) for sign in node.ops):
                self.assertIsInstance(node.comparators[0], ast.Constant, where)
                self.assertIn(node.comparators[0].value, (None, True, False), where)

    def test_l23_walked_at_once(self):
        for where, node in nodes(ast.Call):
            if isinstance(node.func, ast.Name) and node.func.id in WALKED:
                above = node.parent
                walked = isinstance(above, (ast.For, ast.comprehension)) and above.iter is node
                handed = isinstance(above, ast.Call) and isinstance(above.func, ast.Name) and above.func.id in WALKERS
                turned = node.func.id == "range" and isinstance(above, ast.Call) and above.func.id == "reversed"
                asked = node.func.id == "range" and isinstance(above, ast.Compare)
                self.assertTrue(walked or handed or turned or asked, where)

    def test_l25_methods(self):
        own = {node.name for _, kept in nodes(ast.ClassDef) for node in kept.body if isinstance(node, ast.FunctionDef)}
        for where, node in nodes(ast.Call):
            if isinstance(node.func, ast.Attribute):
                self.assertIn(node.func.attr, METHODS | own, where)

    def test_l18_l26_values_of_objects(self):
        pythons = {name for kind in (str, int, list, dict, set, bytes, tuple) for name in dir(kind)}
        methods = {part.name for _, kept in nodes(ast.ClassDef) for part in kept.body if isinstance(part, ast.FunctionDef)}
        values = {node.attr for _, node in nodes(ast.Attribute) if isinstance(node.ctx, ast.Store)}
        self.assertFalse(values & (methods | pythons | NO_NAMES))
        self.assertFalse((methods - {"__init__"}) & (pythons - METHODS | NO_NAMES))
        for path in FILES:
            tree = parse(path)
            called = {id(node.func) for node in ast.walk(tree) if isinstance(node, ast.Call)}
            for node in ast.walk(tree):
                if isinstance(node, ast.Attribute) and id(node) not in called:
                    self.assertIn(node.attr, values, f"{path.name}:{node.lineno}")

    def test_l24_sets(self):
        for where, node in nodes((ast.Set, ast.SetComp, ast.Call)):
            if not isinstance(node, ast.Call) or isinstance(node.func, ast.Name) and node.func.id == "set":
                above = node.parent
                asked = isinstance(above, ast.Compare)
                handed = isinstance(above, ast.Call) and getattr(above.func, "id", "") in ("sorted", "len")
                kept = isinstance(above, ast.Assign) and isinstance(above.targets[0], ast.Name)
                self.assertTrue(asked or handed or kept, where)

    def test_l19_errors_are_made_on_the_spot(self):
        for where, node in nodes(ast.Raise):
            self.assertIsInstance(node.exc, (ast.Call, type(None)), where)


if __name__ == "__main__":
    unittest.main()
