"""Holds the package to the rules of its language (L1 to L28), as far as a walk over its tree can see them."""

import ast
import builtins
import functools
import pathlib
import re
import unittest

PACKAGE = pathlib.Path(__file__).resolve().parent.parent / "evenhall"

STATEMENTS = (ast.FunctionDef, ast.ClassDef, ast.ImportFrom, ast.Assign, ast.AugAssign, ast.If, ast.While, ast.For,
              ast.Return, ast.Break, ast.Continue, ast.Pass, ast.Raise, ast.Try, ast.Expr)
EXPRESSIONS = (ast.Constant, ast.Name, ast.List, ast.Tuple, ast.Dict, ast.BinOp, ast.UnaryOp, ast.BoolOp, ast.Compare,
               ast.IfExp, ast.Call, ast.Attribute, ast.Subscript, ast.Slice, ast.ListComp, ast.JoinedStr,
               ast.FormattedValue, ast.Lambda, ast.Set)
OWN_NAMES = set("""len range enumerate zip min max sum abs sorted reversed int str bool list tuple dict set frozenset
    isinstance ord repr any all divmod ValueError KeyError IndexError LookupError ZeroDivisionError StopIteration
    """.split())
METHODS = set("""append clear copy count endswith extend find get index insert isalnum isalpha isdigit islower isspace
    isupper items join keys ljust lower lstrip partition pop remove replace reverse rfind rjust rpartition rsplit rstrip
    setdefault split splitlines startswith strip update upper values zfill bit_length""".split())
DUNDERS = {"__init__", "__eq__", "__repr__", "__str__", "__len__"}
WORDS_OUT = set("""type typing typing_extensions enum Enum IntEnum StrEnum Flag IntFlag Generic Protocol ABC ABCMeta
    namedtuple NamedTuple TypedDict TYPE_CHECKING abstractmethod""".split())
# The parts in the document's order: each one stands on those ahead of it alone.
PARTS = """errors words days money shares paths chart rates chains bookings journal deeds sums statements reports views
    seals closing budgets watch standing running orders house doing asking shell keeps""".split()
WALKED = {"zip", "enumerate", "reversed", "range"}
VIEWS = {"items", "keys", "values"}
WALKERS = {"list", "tuple", "dict", "sorted", "sum", "any", "all", "enumerate", "zip", "min", "max"}
KEYWORDS = {"sorted": {"key", "reverse"}, "min": {"key", "default"}, "max": {"key", "default"}, "sum": {"start"},
            "enumerate": {"start"}, "zip": {"strict"}}
VALUES_ALLOWED = {"count", "index", "title", "find", "get", "join", "lower", "upper", "split", "strip", "copy", "add"}
OF_PYTHONS_VALUES = {name for kind in (str, int, list, dict, set, bytes, tuple) for name in dir(kind)}
NAMES_OUT = {"register", "mro", "elements", "open", "input", "version_info", "with_traceback", "add_note", "format",
             "format_map"}


def files():
    return sorted(PACKAGE.rglob("*.py"))


@functools.cache
def trees():
    return [(path.name, ast.parse(path.read_text("utf-8"))) for path in files()]


@functools.cache
def nodes():
    return [(name, node) for name, tree in trees() for node in ast.walk(tree)]


def is_docstring(tree, node):
    return bool(tree.body) and node is tree.body[0] and isinstance(node.value, ast.Constant)


@functools.cache
def bound_names():
    """All names that the package's files bind, but for those of Python's own."""
    found = set()
    for _, node in nodes():
        if isinstance(node, (ast.FunctionDef, ast.ClassDef)):
            found.add(node.name)
        elif isinstance(node, ast.arg):
            found.add(node.arg)
        elif isinstance(node, ast.ImportFrom):
            found.update(alias.name for alias in node.names)
        elif isinstance(node, ast.Name) and isinstance(node.ctx, ast.Store):
            found.add(node.id)
        elif isinstance(node, ast.ExceptHandler) and node.name:
            found.add(node.name)
    return found


@functools.cache
def own_methods():
    return {node.name for _, owner in nodes() if isinstance(owner, ast.ClassDef) for node in owner.body
            if isinstance(node, ast.FunctionDef)}


@functools.cache
def own_values():
    """The names of the values that objects are given."""
    return {node.attr for _, node in nodes() if isinstance(node, ast.Attribute) and isinstance(node.ctx, ast.Store)}


@functools.cache
def class_names():
    return {node.name for _, node in nodes() if isinstance(node, ast.ClassDef)}


def calls_of(name):
    return [(where, node) for where, node in nodes() if isinstance(node, ast.Call)
            and isinstance(node.func, ast.Name) and node.func.id == name]


@functools.cache
def with_parents():
    """Each node of each file with the one that it stands in."""
    return [(name, node, child) for name, node in nodes() for child in ast.iter_child_nodes(node)]


class Files(unittest.TestCase):
    def test_names_of_files(self):
        kept = [path for path in PACKAGE.rglob("*") if "__pycache__" not in path.parts and path.is_file()]
        self.assertEqual(sorted(kept), files())
        for path in files():
            if path.name == "__init__.py":
                continue
            self.assertRegex(path.name, "^[a-z][a-z0-9_]*[.]py$")
            self.assertFalse(hasattr(builtins, path.stem) or path.stem.startswith("test"), path)

    def test_signs_and_sizes(self):
        for path in files():
            text = path.read_bytes().decode("utf-8")
            self.assertTrue(all(sign == "\n" or " " <= sign <= "~" for sign in text), path)
            lines = text.split("\n")
            self.assertLessEqual(len(lines), 401, path)
            self.assertLessEqual(max(len(line) for line in lines), 120, path)

    def test_words_that_stand_nowhere(self):
        for path in files():
            words = set(re.findall("[A-Za-z_0-9]+", path.read_text("utf-8")))
            self.assertEqual(words & WORDS_OUT, set(), path)
            self.assertFalse([word for word in words if re.search("dataclass|overload|contextmanager", word)], path)


class Imports(unittest.TestCase):
    def test_only_from_the_package_at_the_top(self):
        for name, tree in trees():
            for node in ast.walk(tree):
                self.assertNotIsInstance(node, ast.Import, name)
                if isinstance(node, ast.ImportFrom):
                    self.assertIn(node, tree.body, name)
                    self.assertRegex(node.module, "^evenhall[.][a-z]+$")
                    self.assertEqual(node.level, 0, name)
                    self.assertFalse([alias for alias in node.names if alias.name == "*" or alias.asname], name)

    def test_no_two_draw_from_one_another(self):
        draws = {name[:-3]: {node.module.split(".")[1] for node in tree.body if isinstance(node, ast.ImportFrom)}
                 for name, tree in trees()}
        while draws:
            free = [name for name in draws if not draws[name]]
            self.assertTrue(free, draws)
            draws = {name: drawn - set(free) for name, drawn in draws.items() if name not in free}


    def test_parts_stand_on_those_ahead_of_them(self):
        for name, tree in trees():
            part = name[:-3]
            if part == "__init__":
                continue
            self.assertIn(part, PARTS)
            for node in tree.body:
                if isinstance(node, ast.ImportFrom):
                    self.assertIn(node.module.split(".")[1], PARTS[:PARTS.index(part)], name)

    def test_from_the_very_file_that_defines_the_name(self):
        defined = {}
        for name, tree in trees():
            own = [node.name for node in tree.body if isinstance(node, (ast.FunctionDef, ast.ClassDef))]
            own.extend(node.targets[0].id for node in tree.body if isinstance(node, ast.Assign))
            defined[name[:-3]] = own
        for name, tree in trees():
            for node in tree.body:
                if isinstance(node, ast.ImportFrom):
                    for alias in node.names:
                        self.assertIn(alias.name, defined[node.module.split(".")[1]], name)

    def test_all_that_is_drawn_is_used(self):
        for name, tree in trees():
            read = {node.id for node in ast.walk(tree) if isinstance(node, ast.Name)}
            for node in tree.body:
                if isinstance(node, ast.ImportFrom):
                    self.assertEqual([alias.name for alias in node.names if alias.name not in read], [], name)


class Forms(unittest.TestCase):
    def test_the_top_of_each_file(self):
        for name, tree in trees():
            bound = []
            for node in tree.body:
                self.assertIsInstance(node, (ast.Expr, ast.ImportFrom, ast.FunctionDef, ast.ClassDef, ast.Assign), name)
                if isinstance(node, ast.Expr):
                    self.assertTrue(is_docstring(tree, node), name)
                elif isinstance(node, ast.Assign):
                    self.assertIsInstance(node.targets[0], ast.Name, name)
                    self.need_plain(node.value, bound, name)
                    bound.append(node.targets[0].id)
                elif isinstance(node, ast.ImportFrom):
                    bound.extend(alias.name for alias in node.names)
                else:
                    bound.append(node.name)
            self.assertEqual(len(bound), len(set(bound)), name)

    def need_plain(self, value, bound, name, deep=False):
        """A plain value, or a list, tuple or dict of such and of what stands above; no list or dict within another."""
        if isinstance(value, (ast.List, ast.Dict)):
            self.assertFalse(deep, name)
        if isinstance(value, (ast.List, ast.Tuple)):
            for part in value.elts:
                self.need_plain(part, bound, name, True)
        elif isinstance(value, ast.Dict):
            for part in value.keys + value.values:
                self.need_plain(part, bound, name, True)
        elif isinstance(value, ast.Name):
            self.assertTrue(deep and value.id in bound, (name, value.id))
        else:
            ast.literal_eval(value)

    def test_statements_and_expressions(self):
        for name, tree in trees():
            for node in ast.walk(tree):
                where = (name, getattr(node, "lineno", 0))
                if isinstance(node, ast.stmt):
                    self.assertIsInstance(node, STATEMENTS, where)
                if isinstance(node, ast.expr):
                    self.assertIsInstance(node, EXPRESSIONS, where)
                if isinstance(node, ast.Expr) and not is_docstring(tree, node):
                    self.assertIsInstance(node.value, ast.Call, where)
                if isinstance(node, ast.Constant):
                    self.assertTrue(node.value is None or isinstance(node.value, (int, str)), where)
                    self.assertNotIn("%", str(node.value), where)
                self.need_parts(node, where)

    def need_parts(self, node, where):
        if isinstance(node, ast.Assign):
            self.assertEqual(len(node.targets), 1, where)
            self.assertIsInstance(node.targets[0], (ast.Name, ast.Attribute, ast.Subscript), where)
        elif isinstance(node, (ast.For, ast.While)):
            self.assertEqual(node.orelse, [], where)
        elif isinstance(node, ast.Try):
            self.assertEqual(node.finalbody, [], where)
            self.assertTrue(all(handler.type is not None for handler in node.handlers), where)
        elif isinstance(node, ast.ListComp):
            self.assertEqual(len(node.generators), 1, where)
            self.assertLessEqual(len(node.generators[0].ifs), 1, where)
        elif isinstance(node, ast.BinOp):
            self.assertNotIsInstance(node.op, (ast.Div, ast.MatMult), where)
            if isinstance(node.op, ast.Pow):
                self.assertIsInstance(node.right, ast.Constant, where)
                self.assertLessEqual(node.right.value, 64, where)
        elif isinstance(node, ast.Compare):
            for op, side in zip(node.ops, node.comparators):
                if isinstance(op, (ast.Is, ast.IsNot)):
                    self.assertTrue(isinstance(side, ast.Constant) and side.value in (None, True, False), where)
        elif isinstance(node, ast.FormattedValue):
            self.assertIsInstance(node.value, ast.Name, where)
            self.assertIsNone(node.format_spec, where)
        elif isinstance(node, ast.ExceptHandler):
            self.need_handler(node, where)

    def need_handler(self, node, where):
        """Errors of Python's own need more care than this sees, so none of them is taken but these."""
        taken = node.type.elts if isinstance(node.type, ast.Tuple) else [node.type]
        for kind in taken:
            self.assertIn(kind.id, class_names() | {"KeyError", "ZeroDivisionError", "StopIteration"}, where)

    def test_functions_and_classes(self):
        for name, node in nodes():
            if isinstance(node, (ast.FunctionDef, ast.ClassDef)):
                self.assertEqual(node.decorator_list, [], name)
            if isinstance(node, ast.FunctionDef):
                self.assertLessEqual(node.end_lineno - node.lineno, 39, (name, node.name))
                arguments = node.args
                self.assertFalse(arguments.vararg or arguments.kwarg or arguments.kwonlyargs or arguments.posonlyargs)
            if isinstance(node, ast.ClassDef):
                self.assertLessEqual(len(node.bases), 1, node.name)
                for part in node.body:
                    self.assertIsInstance(part, (ast.FunctionDef, ast.Pass), node.name)


class Names(unittest.TestCase):
    def test_names_are_plain_and_none_of_pythons_own(self):
        for name in bound_names() - DUNDERS:
            self.assertRegex(name, "^[A-Za-z][A-Za-z0-9_]*$")
            self.assertNotIn(name, NAMES_OUT)
        methods = own_methods()
        for name in bound_names() - DUNDERS - methods:
            self.assertFalse(hasattr(builtins, name), name)

    def test_no_local_is_called_like_a_class_or_an_import_of_its_file(self):
        for name, tree in trees():
            taken = {node.name for node in tree.body if isinstance(node, (ast.ClassDef, ast.FunctionDef))}
            for node in tree.body:
                if isinstance(node, ast.ImportFrom):
                    taken.update(alias.name for alias in node.names)
            for node in ast.walk(tree):
                if isinstance(node, ast.arg):
                    self.assertNotIn(node.arg, taken, name)
                if isinstance(node, ast.Name) and isinstance(node.ctx, ast.Store):
                    self.assertNotIn(node.id, taken, (name, node.lineno))

    def test_methods_and_values_of_objects(self):
        self.assertEqual(own_methods() & own_values(), set())
        for name in own_methods() - DUNDERS:
            self.assertTrue(name not in OF_PYTHONS_VALUES or name in METHODS | {"add", "discard"}, name)
        for name in own_values():
            self.assertTrue(name not in OF_PYTHONS_VALUES or name in VALUES_ALLOWED, name)
            self.assertNotIn(name, {"args", "sort", "format"})

    def test_values_are_given_through_a_local_name(self):
        for name, node in nodes():
            if isinstance(node, ast.Attribute) and isinstance(node.ctx, ast.Store):
                self.assertIsInstance(node.value, ast.Name, (name, node.lineno))
                self.assertNotIn(node.value.id, class_names(), (name, node.lineno))

    def test_names_that_are_read(self):
        known = bound_names() | OWN_NAMES
        for name, node in nodes():
            if isinstance(node, ast.Name):
                self.assertIn(node.id, known, (name, node.lineno))

    def test_methods_that_are_called(self):
        known = METHODS | own_methods() | DUNDERS
        for name, node in nodes():
            if isinstance(node, ast.Attribute):
                self.assertNotIn(node.attr, NAMES_OUT, (name, node.lineno))
            if isinstance(node, ast.Call) and isinstance(node.func, ast.Attribute):
                self.assertIn(node.func.attr, known, (name, node.lineno))


class Uses(unittest.TestCase):
    def test_classes_are_called_or_stand_where_a_class_may(self):
        for name, parent, child in with_parents():
            if isinstance(child, ast.Name) and child.id in class_names() and isinstance(child.ctx, ast.Load):
                where = (name, child.lineno)
                self.assertIsInstance(parent, (ast.Call, ast.ClassDef, ast.ExceptHandler, ast.Raise, ast.Tuple), where)
                if isinstance(parent, ast.Call) and parent.func is not child:
                    self.assertEqual((parent.func.id, parent.args[1]), ("isinstance", child), where)

    def test_raise_makes_its_error_on_the_spot(self):
        for name, node in nodes():
            if isinstance(node, ast.Raise):
                self.assertIsInstance(node.exc, ast.Call, (name, node.lineno))
                self.assertIn(node.exc.func.id, class_names(), (name, node.lineno))

    def test_walked_on_the_spot(self):
        for name, parent, child in with_parents():
            if not isinstance(child, ast.Call):
                continue
            walks = isinstance(child.func, ast.Name) and child.func.id in WALKED
            views = isinstance(child.func, ast.Attribute) and child.func.attr in VIEWS
            if walks or views:
                where = (name, child.lineno)
                if isinstance(parent, ast.Call) and isinstance(parent.func, ast.Attribute):
                    self.assertEqual(parent.func.attr, "join", where)
                    self.assertIsInstance(parent.func.value, ast.Constant, where)
                elif isinstance(parent, ast.Call):
                    self.assertIn(parent.func.id, WALKERS, where)
                else:
                    self.assertIsInstance(parent, (ast.For, ast.comprehension), where)

    def test_sets_stand_on_the_spot(self):
        self.assertEqual([name for name, node in nodes() if isinstance(node, ast.Set)], [])
        for name, parent, child in with_parents():
            if isinstance(child, ast.Call) and isinstance(child.func, ast.Name) and child.func.id in ("set", "frozenset"):
                self.assertTrue(isinstance(parent, ast.Compare) or isinstance(parent, ast.Call)
                                and isinstance(parent.func, ast.Name) and parent.func.id in ("sorted", "len"), name)

    def test_keywords(self):
        for name, node in nodes():
            if isinstance(node, ast.Call) and node.keywords:
                self.assertIsInstance(node.func, ast.Name, (name, node.lineno))
                for keyword in node.keywords:
                    self.assertIn(keyword.arg, KEYWORDS.get(node.func.id, set()), (name, node.lineno))

    def test_pythons_own_are_called_and_not_kept(self):
        for name, parent, child in with_parents():
            if isinstance(child, ast.Name) and child.id in OWN_NAMES and child.id not in class_names():
                where = (name, child.lineno)
                if isinstance(parent, ast.Call):
                    if parent.func is not child:
                        self.assertEqual(parent.func.id, "isinstance", where)
                else:
                    self.assertIsInstance(parent, (ast.keyword, ast.ClassDef, ast.ExceptHandler, ast.Tuple), where)

    def test_isinstance_of_plain_kinds(self):
        known = {"int", "str", "bool", "list", "tuple", "dict"} | class_names()
        for name, node in calls_of("isinstance"):
            kinds = node.args[1].elts if isinstance(node.args[1], ast.Tuple) else [node.args[1]]
            self.assertTrue(all(kind.id in known for kind in kinds), (name, node.lineno))

    def test_methods_are_called_where_they_stand(self):
        methods = own_methods() | METHODS
        for name, parent, child in with_parents():
            if isinstance(child, ast.Attribute) and child.attr in methods - own_values():
                where = (name, child.lineno)
                self.assertTrue(isinstance(parent, ast.Call) and parent.func is child, where)

    def test_what_is_walked_is_not_changed(self):
        changers = {"append", "clear", "extend", "insert", "pop", "remove", "reverse", "setdefault", "update"}
        for name, node in nodes():
            if not isinstance(node, ast.For):
                continue
            walked = {ast.dump(part) for part in ast.walk(node.iter) if isinstance(part, (ast.Name, ast.Attribute))}
            for part in [inner for row in node.body for inner in ast.walk(row)]:
                where = (name, node.lineno)
                if isinstance(part, ast.Call) and isinstance(part.func, ast.Attribute) and part.func.attr in changers:
                    self.assertNotIn(ast.dump(part.func.value), walked, where)
                if isinstance(part, ast.Subscript) and isinstance(part.ctx, ast.Store):
                    self.assertNotIn(ast.dump(part.value), walked, where)

    def test_what_stands_at_the_top_is_only_read(self):
        for name, tree in trees():
            tops = {node.targets[0].id for node in tree.body if isinstance(node, ast.Assign)
                    and isinstance(node.value, (ast.List, ast.Dict))}
            for node in ast.walk(tree):
                for child in ast.iter_child_nodes(node):
                    if isinstance(child, ast.Name) and child.id in tops and isinstance(child.ctx, ast.Load):
                        where = (name, child.lineno)
                        self.assertIsInstance(node, (ast.Subscript, ast.Compare, ast.For, ast.comprehension), where)
                        self.assertIsInstance(getattr(node, "ctx", ast.Load()), ast.Load, where)


if __name__ == "__main__":
    unittest.main()
