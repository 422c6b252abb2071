"""The package's files keep to the small part of Python that the program is written in.

Not every rule can be seen from a file's text; these are the ones that are easy to see. That no
module of Python's own is drawn in, and no name that reaches outside, also holds point 1: no clock,
no chance of its own, no files.
"""

import ast
import builtins
import pathlib
import re
import unittest

PACKAGE = pathlib.Path(__file__).resolve().parent.parent / "veilsum"

BUILTINS = set(
    "len range enumerate zip min max sum abs sorted reversed int str bool list tuple dict set frozenset"
    " isinstance ord repr any all divmod Exception ValueError TypeError KeyError IndexError LookupError"
    " ZeroDivisionError ArithmeticError OverflowError RuntimeError NotImplementedError AttributeError"
    " StopIteration object".split()
)

METHODS = set(
    "append clear copy count endswith extend find get index insert isalnum isalpha isdigit islower isspace"
    " isupper items join keys ljust lower lstrip partition pop remove replace reverse rfind rjust rpartition"
    " rsplit rstrip setdefault split splitlines startswith strip update upper values zfill bit_length".split()
)

DUNDERS = {"__init__", "__eq__", "__repr__", "__str__", "__len__"}

WORDS = (
    r"\b(type|typing|typing_extensions|enum|Enum|IntEnum|StrEnum|Flag|IntFlag|Generic|Protocol|ABC|ABCMeta"
    r"|namedtuple|NamedTuple|TypedDict|TYPE_CHECKING|abstractmethod)\b|dataclass|overload|contextmanager"
)

NEVER = set("register mro elements open input version_info with_traceback add_note format format_map".split())

NODES = (
    ast.Module, ast.ImportFrom, ast.alias, ast.FunctionDef, ast.arguments, ast.arg, ast.Lambda, ast.ClassDef,
    ast.Assign, ast.AugAssign, ast.If, ast.While, ast.For, ast.Return, ast.Break, ast.Continue, ast.Pass,
    ast.Raise, ast.Try, ast.ExceptHandler, ast.Expr, ast.Constant, ast.List, ast.Tuple, ast.Dict, ast.Set,
    ast.BinOp, ast.UnaryOp, ast.BoolOp, ast.Compare, ast.IfExp, ast.Call, ast.keyword, ast.Attribute,
    ast.Subscript, ast.Slice, ast.ListComp, ast.comprehension, ast.JoinedStr, ast.FormattedValue, ast.Name,
    ast.expr_context, ast.operator, ast.unaryop, ast.boolop, ast.cmpop,
)


def sources():
    return sorted(path for path in PACKAGE.iterdir() if path.name != "__pycache__")


def trees():
    return [(path.name, ast.parse(path.read_text(encoding="ascii"))) for path in sources()]


def nodes(kind):
    return [(name, node) for name, tree in trees() for node in ast.walk(tree) if isinstance(node, kind)]


def bound_names(tree):
    found = []
    for node in ast.walk(tree):
        if isinstance(node, ast.Name) and isinstance(node.ctx, ast.Store):
            found.append(node.id)
        elif isinstance(node, ast.arg):
            found.append(node.arg)
        elif isinstance(node, (ast.FunctionDef, ast.ClassDef)):
            found.append(node.name)
    return found


def local_names(tree):
    functions = [node for node in ast.walk(tree) if isinstance(node, (ast.FunctionDef, ast.Lambda))]
    found = set()
    for function in functions:
        found.update(node.arg for node in ast.walk(function) if isinstance(node, ast.arg))
        found.update(
            node.id for node in ast.walk(function) if isinstance(node, ast.Name) and isinstance(node.ctx, ast.Store)
        )
    return found


def drawn_from(tree):
    return [node.module for node in ast.walk(tree) if isinstance(node, ast.ImportFrom)]


def walked_on_the_spot(tree):
    """The places at which what can be walked but once may stand."""
    found = []
    for node in ast.walk(tree):
        if isinstance(node, (ast.For, ast.comprehension)):
            found.append(node.iter)
        elif isinstance(node, ast.Call) and isinstance(node.func, ast.Name):
            if node.func.id in ("enumerate", "zip"):
                found.extend(node.args)
            elif node.func.id in ("list", "tuple", "dict", "sorted", "sum", "any", "all"):
                found.extend(node.args[:1])
            elif node.func.id in ("min", "max") and len(node.args) == 1:
                found.extend(node.args)
        elif isinstance(node, ast.Call) and isinstance(node.func, ast.Attribute) and node.func.attr == "join":
            found.extend(node.args)
    return found


def called(node):
    if isinstance(node.func, ast.Attribute):
        return node.func.attr
    return node.func.id if isinstance(node.func, ast.Name) else ""


class Language(unittest.TestCase):
    def test_files_and_signs(self):
        for path in sources():
            with self.subTest(path=path.name):
                self.assertRegex(path.name, r"^[a-z0-9_]+\.py$")
                text = path.read_bytes().decode("ascii")
                self.assertIsNone(re.search(r"[^ -~\n]", text))
                self.assertIsNone(re.search(WORDS, text))
                lines = text.split("\n")
                self.assertLessEqual(len(lines), 401)
                self.assertLessEqual(max(len(line) for line in lines), 120)

    def test_imports_are_the_packages_own(self):
        for name, node in nodes((ast.Import, ast.ImportFrom)):
            with self.subTest(file=name, line=node.lineno):
                self.assertIsInstance(node, ast.ImportFrom)
                self.assertEqual(node.level, 0)
                self.assertRegex(node.module, r"^veilsum\.[a-z0-9_]+$")
                target = ast.parse((PACKAGE / (node.module.split(".")[1] + ".py")).read_text())
                top = [one for part in target.body for one in bound_names(part)]
                for alias in node.names:
                    self.assertIn(alias.name, top)

    def test_only_the_forms_that_are_let(self):
        for name, node in nodes(ast.AST):
            with self.subTest(file=name, line=getattr(node, "lineno", 0), form=type(node).__name__):
                self.assertIsInstance(node, NODES)
                self.assertNotIsInstance(node, (ast.Div, ast.MatMult))
                if isinstance(node, ast.Constant):
                    self.assertNotIsInstance(node.value, (float, bytes, complex))
                if isinstance(node, (ast.For, ast.While)):
                    self.assertEqual(node.orelse, [])
                if isinstance(node, ast.Try):
                    self.assertEqual(node.finalbody, [])
                if isinstance(node, ast.ListComp):
                    self.assertEqual(len(node.generators), 1)
                    self.assertLessEqual(len(node.generators[0].ifs), 1)
                if isinstance(node, ast.Assign):
                    self.assertEqual(len(node.targets), 1)
                if isinstance(node, ast.Compare) and isinstance(node.ops[0], (ast.Is, ast.IsNot)):
                    self.assertIsInstance(node.comparators[0], ast.Constant)

    def test_functions_are_short_and_plain(self):
        for name, node in nodes(ast.FunctionDef):
            with self.subTest(file=name, function=node.name):
                self.assertLessEqual(node.end_lineno - node.lineno + 1, 40)
                self.assertEqual(node.decorator_list, [])
                self.assertIsNone(node.args.vararg)
                self.assertIsNone(node.args.kwarg)
                self.assertEqual(node.args.kwonlyargs + node.args.posonlyargs, [])

    def test_names(self):
        for name, tree in trees():
            for bound in bound_names(tree):
                with self.subTest(file=name, bound=bound):
                    self.assertTrue(bound in DUNDERS or re.match(r"^[A-Za-z][A-Za-z0-9_]*$", bound))
                    self.assertTrue(bound in DUNDERS or not hasattr(builtins, bound))
                    self.assertNotIn(bound, NEVER)

    def test_top_names_are_bound_once(self):
        for name, tree in trees():
            bound = []
            for part in tree.body:
                if isinstance(part, ast.ImportFrom):
                    bound.extend(alias.asname or alias.name for alias in part.names)
                elif isinstance(part, (ast.FunctionDef, ast.ClassDef)):
                    bound.append(part.name)
                else:
                    bound.extend(bound_names(part))
            with self.subTest(file=name):
                self.assertEqual(len(bound), len(set(bound)))

    def test_locals_are_not_called_like_classes_or_imports(self):
        for name, tree in trees():
            taken = {alias.asname or alias.name for node in tree.body if isinstance(node, ast.ImportFrom)
                     for alias in node.names}
            taken.update(node.name for node in tree.body if isinstance(node, ast.ClassDef))
            with self.subTest(file=name):
                self.assertEqual(local_names(tree) & taken, set())

    def test_no_two_files_draw_from_one_another(self):
        left = {"veilsum." + name[:-3]: drawn_from(tree) for name, tree in trees()}
        while left:
            free = [module for module, drawn in left.items() if not set(drawn) & set(left)]
            self.assertNotEqual(free, [], left)
            for module in free:
                left.pop(module)

    def test_walked_at_once(self):
        once = ("zip", "enumerate", "reversed", "range", "items", "keys", "values")
        for name, tree in trees():
            let = walked_on_the_spot(tree)
            for node in ast.walk(tree):
                if isinstance(node, ast.Call) and called(node) in once:
                    with self.subTest(file=name, line=node.lineno):
                        self.assertIn(node, let)

    def test_methods_and_values_are_called_unlike(self):
        methods = {part.name for _, node in nodes(ast.ClassDef) for part in node.body
                   if isinstance(part, ast.FunctionDef)}
        values = {node.attr for _, node in nodes(ast.Attribute) if isinstance(node.ctx, ast.Store)}
        self.assertEqual(methods & values, set())

    def test_written_exponents(self):
        for name, node in nodes(ast.BinOp):
            if isinstance(node.op, ast.Pow):
                with self.subTest(file=name, line=node.lineno):
                    self.assertIsInstance(node.right, ast.Constant)

    def test_dicts_and_lists_of_a_files_top_hold_none(self):
        for name, tree in trees():
            for part in tree.body:
                if isinstance(part, ast.Assign):
                    inner = [node for node in ast.walk(part.value) if isinstance(node, (ast.List, ast.Dict))]
                    with self.subTest(file=name, line=part.lineno):
                        self.assertEqual([node for node in inner if node != part.value], [])

    def test_only_the_names_of_python_that_are_let(self):
        for name, node in nodes(ast.Name):
            if hasattr(builtins, node.id):
                with self.subTest(file=name, line=node.lineno):
                    self.assertIn(node.id, BUILTINS)

    def test_attributes_and_methods(self):
        for name, node in nodes(ast.Attribute):
            with self.subTest(file=name, line=node.lineno, attribute=node.attr):
                self.assertNotIn(node.attr, NEVER)
                self.assertTrue(node.attr in DUNDERS or not node.attr.startswith("_"))
                own = not any(hasattr(kind, node.attr) for kind in (str, int, list, dict, set, bytes, tuple))
                self.assertTrue(own or node.attr in METHODS or node.attr in DUNDERS)


if __name__ == "__main__":
    unittest.main()
