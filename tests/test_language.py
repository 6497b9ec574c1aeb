"""Holds the package to the rules of its language (L1 to L28), as far as a walk over its tree can see them."""

import ast
import builtins
import pathlib
import re
import unittest

PACKAGE = pathlib.Path(__file__).resolve().parent.parent / "evenhall"

STATEMENTS = (ast.FunctionDef, ast.ClassDef, ast.ImportFrom, ast.Assign, ast.AugAssign, ast.If, ast.While, ast.For,
              ast.Return, ast.Break, ast.Continue, ast.Pass, ast.Raise, ast.Try, ast.Expr)
EXPRESSIONS = (ast.Constant, ast.Name, ast.List, ast.Tuple, ast.Dict, ast.BinOp, ast.UnaryOp, ast.BoolOp, ast.Compare,
               ast.IfExp, ast.Call, ast.Attribute, ast.Subscript, ast.Slice, ast.ListComp, ast.JoinedStr,
               ast.FormattedValue, ast.Lambda, ast.Set)
OWN_NAMES = set("""len range enumerate zip min max sum abs sorted reversed int str bool list tuple dict set frozenset
    isinstance ord repr any all divmod ValueError KeyError IndexError LookupError ZeroDivisionError StopIteration
    """.split())
METHODS = set("""append clear copy count endswith extend find get index insert isalnum isalpha isdigit islower isspace
    isupper items join keys ljust lower lstrip partition pop remove replace reverse rfind rjust rpartition rsplit rstrip
    setdefault split splitlines startswith strip update upper values zfill bit_length""".split())
DUNDERS = {"__init__", "__eq__", "__repr__", "__str__", "__len__"}
WORDS_OUT = set("""type typing typing_extensions enum Enum IntEnum StrEnum Flag IntFlag Generic Protocol ABC ABCMeta
    namedtuple NamedTuple TypedDict TYPE_CHECKING abstractmethod""".split())
NAMES_OUT = {"register", "mro", "elements", "open", "input", "version_info", "with_traceback", "add_note", "format",
             "format_map"}


def files():
    return sorted(PACKAGE.rglob("*.py"))


def trees():
    return [(path.name, ast.parse(path.read_text("utf-8"))) for path in files()]


def nodes():
    return [(name, node) for name, tree in trees() for node in ast.walk(tree)]


def is_docstring(tree, node):
    return bool(tree.body) and node is tree.body[0] and isinstance(node.value, ast.Constant)


def bound_names():
    """All names that the package's files bind, but for those of Python's own."""
    found = set()
    for _, node in nodes():
        if isinstance(node, (ast.FunctionDef, ast.ClassDef)):
            found.add(node.name)
        elif isinstance(node, ast.arg):
            found.add(node.arg)
        elif isinstance(node, ast.ImportFrom):
            found.update(alias.name for alias in node.names)
        elif isinstance(node, ast.Name) and isinstance(node.ctx, ast.Store):
            found.add(node.id)
        elif isinstance(node, ast.ExceptHandler) and node.name:
            found.add(node.name)
    return found


def own_methods():
    return {node.name for _, owner in nodes() if isinstance(owner, ast.ClassDef) for node in owner.body
            if isinstance(node, ast.FunctionDef)}


class Files(unittest.TestCase):
    def test_names_of_files(self):
        kept = [path for path in PACKAGE.rglob("*") if "__pycache__" not in path.parts and path.is_file()]
        self.assertEqual(sorted(kept), files())
        for path in files():
            if path.name == "__init__.py":
                continue
            self.assertRegex(path.name, "^[a-z][a-z0-9_]*[.]py$")
            self.assertFalse(hasattr(builtins, path.stem) or path.stem.startswith("test"), path)

    def test_signs_and_sizes(self):
        for path in files():
            text = path.read_bytes().decode("utf-8")
            self.assertTrue(all(sign == "\n" or " " <= sign <= "~" for sign in text), path)
            lines = text.split("\n")
            self.assertLessEqual(len(lines), 401, path)
            self.assertLessEqual(max(len(line) for line in lines), 120, path)

    def test_words_that_stand_nowhere(self):
        for path in files():
            words = set(re.findall("[A-Za-z_0-9]+", path.read_text("utf-8")))
            self.assertEqual(words & WORDS_OUT, set(), path)
            self.assertFalse([word for word in words if re.search("dataclass|overload|contextmanager", word)], path)


class Imports(unittest.TestCase):
    def test_only_from_the_package_at_the_top(self):
        for name, tree in trees():
            for node in ast.walk(tree):
                self.assertNotIsInstance(node, ast.Import, name)
                if isinstance(node, ast.ImportFrom):
                    self.assertIn(node, tree.body, name)
                    self.assertRegex(node.module, "^evenhall[.][a-z]+$")
                    self.assertEqual(node.level, 0, name)
                    self.assertFalse([alias for alias in node.names if alias.name == "*" or alias.asname], name)

    def test_no_two_draw_from_one_another(self):
        draws = {name[:-3]: {node.module.split(".")[1] for node in tree.body if isinstance(node, ast.ImportFrom)}
                 for name, tree in trees()}
        while draws:
            free = [name for name in draws if not draws[name]]
            self.assertTrue(free, draws)
            draws = {name: drawn - set(free) for name, drawn in draws.items() if name not in free}


class Forms(unittest.TestCase):
    def test_the_top_of_each_file(self):
        for name, tree in trees():
            bound = []
            for node in tree.body:
                self.assertIsInstance(node, (ast.Expr, ast.ImportFrom, ast.FunctionDef, ast.ClassDef, ast.Assign), name)
                if isinstance(node, ast.Expr):
                    self.assertTrue(is_docstring(tree, node), name)
                elif isinstance(node, ast.Assign):
                    self.assertIsInstance(node.targets[0], ast.Name, name)
                    ast.literal_eval(node.value)
                    bound.append(node.targets[0].id)
                elif isinstance(node, ast.ImportFrom):
                    bound.extend(alias.name for alias in node.names)
                else:
                    bound.append(node.name)
            self.assertEqual(len(bound), len(set(bound)), name)

    def test_statements_and_expressions(self):
        for name, tree in trees():
            for node in ast.walk(tree):
                where = (name, getattr(node, "lineno", 0))
                if isinstance(node, ast.stmt):
                    self.assertIsInstance(node, STATEMENTS, where)
                if isinstance(node, ast.expr):
                    self.assertIsInstance(node, EXPRESSIONS, where)
                if isinstance(node, ast.Expr) and not is_docstring(tree, node):
                    self.assertIsInstance(node.value, ast.Call, where)
                if isinstance(node, ast.Constant):
                    self.assertTrue(node.value is None or isinstance(node.value, (int, str)), where)
                    self.assertNotIn("%", str(node.value), where)
                self.need_parts(node, where)

    def need_parts(self, node, where):
        if isinstance(node, ast.Assign):
            self.assertEqual(len(node.targets), 1, where)
            self.assertIsInstance(node.targets[0], (ast.Name, ast.Attribute, ast.Subscript), where)
        elif isinstance(node, (ast.For, ast.While)):
            self.assertEqual(node.orelse, [], where)
        elif isinstance(node, ast.Try):
            self.assertEqual(node.finalbody, [], where)
            self.assertTrue(all(handler.type is not None for handler in node.handlers), where)
        elif isinstance(node, ast.ListComp):
            self.assertEqual(len(node.generators), 1, where)
            self.assertLessEqual(len(node.generators[0].ifs), 1, where)
        elif isinstance(node, ast.BinOp):
            self.assertNotIsInstance(node.op, (ast.Div, ast.MatMult), where)
            if isinstance(node.op, ast.Pow):
                self.assertIsInstance(node.right, ast.Constant, where)
                self.assertLessEqual(node.right.value, 64, where)
        elif isinstance(node, ast.Compare):
            for op, side in zip(node.ops, node.comparators):
                if isinstance(op, (ast.Is, ast.IsNot)):
                    self.assertTrue(isinstance(side, ast.Constant) and side.value in (None, True, False), where)

    def test_functions_and_classes(self):
        for name, node in nodes():
            if isinstance(node, (ast.FunctionDef, ast.ClassDef)):
                self.assertEqual(node.decorator_list, [], name)
            if isinstance(node, ast.FunctionDef):
                self.assertLessEqual(node.end_lineno - node.lineno, 39, (name, node.name))
                arguments = node.args
                self.assertFalse(arguments.vararg or arguments.kwarg or arguments.kwonlyargs or arguments.posonlyargs)
            if isinstance(node, ast.ClassDef):
                self.assertLessEqual(len(node.bases), 1, node.name)
                for part in node.body:
                    self.assertIsInstance(part, (ast.FunctionDef, ast.Pass), node.name)


class Names(unittest.TestCase):
    def test_names_are_plain_and_none_of_pythons_own(self):
        for name in bound_names() - DUNDERS:
            self.assertRegex(name, "^[A-Za-z][A-Za-z0-9_]*$")
            self.assertNotIn(name, NAMES_OUT)
        methods = own_methods()
        for name in bound_names() - DUNDERS - methods:
            self.assertFalse(hasattr(builtins, name), name)

    def test_names_that_are_read(self):
        known = bound_names() | OWN_NAMES
        for name, node in nodes():
            if isinstance(node, ast.Name):
                self.assertIn(node.id, known, (name, node.lineno))

    def test_methods_that_are_called(self):
        known = METHODS | own_methods() | DUNDERS
        for name, node in nodes():
            if isinstance(node, ast.Attribute):
                self.assertNotIn(node.attr, NAMES_OUT, (name, node.lineno))
            if isinstance(node, ast.Call) and isinstance(node.func, ast.Attribute):
                self.assertIn(node.func.attr, known, (name, node.lineno))


if __name__ == "__main__":
    unittest.main()
