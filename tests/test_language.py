"""Holds the package's files to those rules of the language that can be seen in their form."""

import ast
import builtins
import pathlib
import re
import unittest

FOLDER = pathlib.Path(__file__).resolve().parent.parent / "oneleash"
OWN_NAMES = set("""len range enumerate zip min max sum abs sorted reversed int str bool list tuple dict set frozenset
    isinstance ord repr any all divmod Exception ValueError TypeError KeyError IndexError LookupError
    ZeroDivisionError ArithmeticError OverflowError RuntimeError NotImplementedError AttributeError
    StopIteration""".split())
OWN_METHODS = set("""append clear copy count endswith extend find get index insert isalnum isalpha isdigit islower
    isspace isupper items join keys ljust lower lstrip partition pop remove replace reverse rfind rjust rpartition
    rsplit rstrip setdefault split splitlines startswith strip update upper values zfill bit_length""".split())
FORMS = set("""Module Expr Constant ImportFrom alias FunctionDef arguments arg ClassDef Assign AugAssign If While For
    Return Break Continue Pass Raise Try ExceptHandler Call keyword Attribute Subscript Slice Name Load Store List
    Tuple Dict Set BinOp Add Sub Mult FloorDiv Mod Pow BitAnd BitOr BitXor LShift RShift UnaryOp USub UAdd Not Invert
    BoolOp And Or Compare Eq NotEq Lt LtE Gt GtE Is IsNot In NotIn IfExp Lambda ListComp comprehension JoinedStr
    FormattedValue""".split())
WORDS_LEFT_OUT = re.compile(r"\b(type|typing|typing_extensions|enum|Enum|IntEnum|StrEnum|Flag|IntFlag|Generic|Protocol"
                            r"|ABC|ABCMeta|namedtuple|NamedTuple|TypedDict|TYPE_CHECKING|abstractmethod)\b"
                            r"|dataclass|overload|contextmanager")
NAMES_LEFT_OUT = set("register mro elements open input version_info with_traceback add_note".split())
WALKED_AT_ONCE = set("zip enumerate reversed range items keys values".split())
WALKS_AT_ONCE = set("list tuple dict sorted sum any all enumerate zip min max join".split())
PLAIN_NAME = re.compile(r"[A-Za-z][A-Za-z0-9_]*\Z")


def files():
    return sorted(path for path in FOLDER.iterdir() if path.name != "__pycache__")


def bound_names(tree):
    """All names that a file gives, but those of imports."""
    for node in ast.walk(tree):
        if isinstance(node, (ast.FunctionDef, ast.ClassDef)):
            yield node.name
        elif isinstance(node, ast.arg):
            yield node.arg
        elif isinstance(node, ast.Name) and isinstance(node.ctx, ast.Store):
            yield node.id


def called_name(node):
    """The name that a call calls, or None of other things."""
    if not isinstance(node, ast.Call):
        return None
    return node.func.attr if isinstance(node.func, ast.Attribute) else node.func.id


def walked_on_the_spot(tree):
    """What stands behind the `in` of a loop, or first in a call that walks it."""
    for node in ast.walk(tree):
        if isinstance(node, (ast.For, ast.comprehension)):
            yield node.iter
        if called_name(node) in WALKS_AT_ONCE:
            yield from node.args if called_name(node) == "zip" else node.args[:1]


def own_methods_and_values(tree):
    """The names of methods, and of the values that objects are given when they are made."""
    for node in ast.walk(tree):
        if isinstance(node, ast.ClassDef):
            yield from [method.name for method in node.body if isinstance(method, ast.FunctionDef)]
        if isinstance(node, ast.Attribute) and isinstance(node.ctx, ast.Store):
            yield node.attr


def imported_names(tree):
    return [alias.name for node in tree.body if isinstance(node, ast.ImportFrom) for alias in node.names]


class Language(unittest.TestCase):
    def each(self):
        for path in files():
            with self.subTest(file=path.name):
                yield path, path.read_bytes().decode("ascii")

    def each_node(self):
        for path, text in self.each():
            for node in ast.walk(ast.parse(text)):
                yield f"{path.name}:{getattr(node, 'lineno', 0)}", node

    def test_files_lines_and_signs(self):
        self.assertIn("__init__.py", [path.name for path in files()])
        for path, text in self.each():
            self.assertTrue(re.fullmatch(r"[a-z][a-z0-9_]*\.py|__init__\.py", path.name))
            self.assertTrue(all(sign == "\n" or " " <= sign <= "~" for sign in text))
            self.assertLessEqual(len(text.splitlines()), 400)
            self.assertLessEqual(max([len(row) for row in text.splitlines()]), 120)
            self.assertIsNone(WORDS_LEFT_OUT.search(text))

    def test_forms(self):
        for where, node in self.each_node():
            self.assertIn(type(node).__name__, FORMS, where)
            if isinstance(node, ast.Constant):
                self.assertIn(type(node.value), (int, str, bool, type(None)), where)
            if isinstance(node, ast.Assign):
                self.assertEqual(len(node.targets), 1, where)
            if isinstance(node, (ast.For, ast.While)):
                self.assertEqual(node.orelse, [], where)
            if isinstance(node, ast.Compare) and isinstance(node.ops[0], (ast.Is, ast.IsNot)):
                self.assertIsInstance(node.comparators[0], ast.Constant, where)
            if isinstance(node, ast.BinOp) and isinstance(node.op, ast.Pow):
                self.assertIsInstance(node.right, ast.Constant, where)
            if isinstance(node, ast.ListComp):
                self.assertEqual(len(node.generators), 1, where)
                self.assertLessEqual(len(node.generators[0].ifs), 1, where)

    def test_functions_and_classes(self):
        for where, node in self.each_node():
            if isinstance(node, ast.FunctionDef):
                self.assertLessEqual(node.end_lineno - node.lineno + 1, 40, where)
                self.assertEqual(node.decorator_list, [], where)
                self.assertIsNone(node.args.vararg or node.args.kwarg or node.returns, where)
                self.assertEqual(node.args.kwonlyargs + node.args.posonlyargs, [], where)
            if isinstance(node, ast.ClassDef):
                self.assertEqual(node.decorator_list + node.keywords, [], where)
                self.assertLessEqual(len(node.bases), 1, where)

    def test_top_of_files(self):
        for path, text in self.each():
            body = ast.parse(text).body
            self.assertIsInstance(body[0].value.value, str)
            for node in body[1:]:
                self.assertIsInstance(node, (ast.ImportFrom, ast.FunctionDef, ast.ClassDef, ast.Assign))
            names = [name for node in body if isinstance(node, (ast.FunctionDef, ast.ClassDef)) for name in [node.name]]
            names += [node.targets[0].id for node in body if isinstance(node, ast.Assign)]
            self.assertEqual(len(names), len(set(names)))

    def test_names(self):
        own = set()
        for path, text in self.each():
            own |= set(own_methods_and_values(ast.parse(text)))
        for kind in (str, int, list, dict, set, tuple, bytes, bool):
            self.assertEqual([name for name in own if name != "__init__" and hasattr(kind, name)], [])
        for path, text in self.each():
            tree = ast.parse(text)
            for name in bound_names(tree):
                if name == "__init__":
                    continue
                self.assertTrue(PLAIN_NAME.match(name), name)
                self.assertFalse(hasattr(builtins, name), name)
                self.assertNotIn(name, NAMES_LEFT_OUT)
                self.assertNotIn(name, imported_names(tree))
            known = set(bound_names(tree)) | set(imported_names(tree)) | OWN_NAMES
            for node in ast.walk(tree):
                if isinstance(node, ast.Name):
                    self.assertIn(node.id, known)
                if isinstance(node, ast.Attribute):
                    self.assertIn(node.attr, OWN_METHODS | own)

    def test_what_is_walked_at_once_is_not_kept(self):
        for path, text in self.each():
            tree = ast.parse(text)
            walked = [id(node) for node in walked_on_the_spot(tree)]
            for node in ast.walk(tree):
                if called_name(node) in WALKED_AT_ONCE:
                    self.assertIn(id(node), walked, f"{path.name}:{node.lineno}")

    def test_one_name_stands_on_the_left_of_an_assignment(self):
        for where, node in self.each_node():
            if isinstance(node, ast.Assign):
                self.assertNotIsInstance(node.targets[0], (ast.Tuple, ast.List), where)

    def test_imports_come_from_where_the_name_is_made_and_never_in_a_ring(self):
        drawn = {}
        for path, text in self.each():
            drawn[path.stem] = []
            for node in ast.walk(ast.parse(text)):
                if isinstance(node, ast.ImportFrom):
                    self.assertEqual(node.level, 0)
                    package, module = node.module.split(".")
                    self.assertEqual(package, "oneleash")
                    drawn[path.stem].append(module)
                    source = ast.parse((FOLDER / f"{module}.py").read_text())
                    for alias in node.names:
                        self.assertIsNone(alias.asname)
                        self.assertIn(alias.name, list(bound_names(source)))
        self.assertEqual(drawn["__init__"], [])
        while drawn:
            free = [name for name in drawn if not any(module in drawn for module in drawn[name])]
            self.assertTrue(free, drawn)
            for name in free:
                drawn.pop(name)


if __name__ == "__main__":
    unittest.main()
