"""The files of the package keep to LANGUAGE.md, as far as a look at their words and trees can tell."""

import ast
import builtins
import pathlib
import re
import unittest

FOLDER = pathlib.Path(__file__).resolve().parent.parent / "pairtally"

BUILTINS = set(
    "len range enumerate zip min max sum abs sorted reversed int str bool bytes list tuple dict set frozenset isinstance"
    " ord repr any all divmod Exception ValueError TypeError KeyError IndexError LookupError ZeroDivisionError"
    " ArithmeticError OverflowError RuntimeError NotImplementedError AttributeError StopIteration NotImplemented"
    " super".split())
METHODS = set(
    "append clear copy count endswith extend find get index insert isalnum isalpha isdigit islower isspace isupper items"
    " join keys ljust lower lstrip partition pop remove replace reverse rfind rjust rpartition rsplit rstrip setdefault"
    " split splitlines startswith strip update upper values zfill bit_length sort add discard __init__".split())
BARRED_NAMES = set(
    "register mro elements open input version_info with_traceback add_note attrgetter breakpoint builtins compile"
    " copyright credits delattr dir eval exec exit gc getattr globals hasattr help id importlib license locals"
    " methodcaller os quit setattr type vars sys __name__ format format_map".split())
BARRED_WORDS = set(
    "type typing typing_extensions enum Enum IntEnum StrEnum Flag IntFlag Generic Protocol ABC ABCMeta namedtuple"
    " NamedTuple TypedDict TYPE_CHECKING abstractmethod".split())
STATEMENTS = (
    ast.Assign, ast.AugAssign, ast.If, ast.While, ast.For, ast.Return, ast.Break, ast.Continue, ast.Pass, ast.Raise,
    ast.Assert, ast.Delete, ast.Try, ast.Expr, ast.FunctionDef, ast.ClassDef, ast.ImportFrom,
)
EXPRESSIONS = (
    ast.BoolOp, ast.BinOp, ast.UnaryOp, ast.IfExp, ast.Dict, ast.Set, ast.ListComp, ast.SetComp, ast.DictComp,
    ast.GeneratorExp, ast.Compare, ast.Call, ast.FormattedValue, ast.JoinedStr, ast.Constant, ast.Attribute,
    ast.Subscript, ast.Starred, ast.Name, ast.List, ast.Tuple, ast.Slice, ast.Lambda,
)
EAGER = ("list", "tuple", "dict", "sorted", "sum", "min", "max", "any", "all")
LAZY = ("zip", "enumerate", "reversed", "range")


def package():
    for path in sorted(FOLDER.glob("*.py")):
        text = path.read_text(encoding="utf-8")
        yield path, text, ast.parse(text)


def nodes(tree, *kinds):
    return [node for node in ast.walk(tree) if isinstance(node, kinds)]


def parents(tree):
    return {child: node for node in ast.walk(tree) for child in ast.iter_child_nodes(node)}


def bound_names(tree):
    """Each name that a function binds: parameters and targets."""
    for node in nodes(tree, ast.arg):
        yield node.arg, node
    for node in nodes(tree, ast.Name):
        if not isinstance(node.ctx, ast.Load):
            yield node.id, node


def own_methods():
    """The name of each method of a class of the package."""
    for path, text, tree in package():
        for kind in nodes(tree, ast.ClassDef):
            for node in nodes(kind, ast.FunctionDef):
                yield node.name


def called_name(node):
    return node.func.id if isinstance(node, ast.Call) and isinstance(node.func, ast.Name) else None


class Language(unittest.TestCase):
    def test_files(self):
        names = [path.name for path in FOLDER.iterdir() if path.name != "__pycache__"]
        self.assertIn("__init__.py", names)
        self.assertLessEqual(len(names), 100)
        for name in names:
            self.assertRegex(name, r"^([a-z][a-z0-9_]*|__init__)\.py$")
            self.assertFalse(name[:-3] in dir(builtins) or name.startswith(("test", "law_", "site", "conftest")), name)

    def test_sizes_and_characters(self):
        for path, text, tree in package():
            rows = text.split("\n")
            self.assertLessEqual(len(rows), 400, path)
            for row in rows:
                self.assertLessEqual(len(row), 120, (path, row))
                self.assertRegex(row, r"^[ -~]*$", path)
            for node in nodes(tree, ast.FunctionDef):
                self.assertLessEqual(node.end_lineno - node.lineno + 1, 40, (path, node.name))

    def test_words(self):
        for path, text, tree in package():
            found = set(re.findall(r"\w+", text))
            self.assertEqual(found & BARRED_WORDS, set(), path)
            for part in ("dataclass", "overload", "contextmanager"):
                self.assertNotIn(part, text, path)
            for node in nodes(tree, ast.Constant):
                self.assertIsInstance(node.value, (int, str, bytes, bool, type(None)), path)
                if isinstance(node.value, str):
                    self.assertNotIn("%", node.value, path)

    def test_statements_and_expressions(self):
        for path, text, tree in package():
            for node in nodes(tree, ast.stmt):
                self.assertIsInstance(node, STATEMENTS, (path, node.lineno))
            for node in nodes(tree, ast.expr):
                self.assertIsInstance(node, EXPRESSIONS, (path, node.lineno))
            for node in nodes(tree, ast.Div, ast.MatMult):
                self.fail((path, node))
            for node in nodes(tree, ast.BinOp):
                if isinstance(node.op, ast.Pow):
                    self.assertIsInstance(node.right, ast.Constant, (path, node.lineno))

    def test_imports(self):
        edges = {}
        for path, text, tree in package():
            for node in nodes(tree, ast.Import, ast.ImportFrom):
                self.assertIsInstance(node, ast.ImportFrom, path)
                self.assertIn(node, tree.body, path)
                self.assertRegex(node.module, r"^pairtally\.\w+$")
                source = FOLDER / (node.module.split(".")[1] + ".py")
                defined = [part.name for part in ast.parse(source.read_text()).body if hasattr(part, "name")]
                used = {part.id for part in nodes(tree, ast.Name)}
                for alias in node.names:
                    self.assertIsNone(alias.asname, path)
                    self.assertIn(alias.name, defined, path)
                    self.assertIn(alias.name, used, path)
                edges.setdefault(path.stem, []).append(source.stem)
        self.assert_no_circle(edges)

    def assert_no_circle(self, edges):
        left = dict(edges)
        while left:
            free = [name for name in left if not any(other in left for other in left[name])]
            self.assertTrue(free, left)
            for name in free:
                del left[name]

    def test_module_level(self):
        for path, text, tree in package():
            names = []
            for k, node in enumerate(tree.body):
                if isinstance(node, ast.Expr):
                    self.assertTrue(k == 0 and isinstance(node.value, ast.Constant), path)
                elif isinstance(node, ast.Assign):
                    ast.literal_eval(node.value)
                    names += [target.id for target in node.targets]
                elif isinstance(node, ast.ImportFrom):
                    names += [alias.name for alias in node.names]
                else:
                    self.assertIsInstance(node, (ast.FunctionDef, ast.ClassDef), path)
                    names.append(node.name)
            self.assertEqual(len(names), len(set(names)), path)

    def test_functions(self):
        for path, text, tree in package():
            for node in nodes(tree, ast.FunctionDef, ast.ClassDef):
                self.assertEqual(node.decorator_list, [], path)
            for node in nodes(tree, ast.arguments):
                self.assertEqual(node.posonlyargs, [], path)
                for default in node.defaults:
                    ast.literal_eval(default)

    def test_names(self):
        for path, text, tree in package():
            taken = {alias.name for node in nodes(tree, ast.ImportFrom) for alias in node.names}
            taken |= {node.name for node in nodes(tree, ast.ClassDef)}
            for name, node in bound_names(tree):
                self.assertRegex(name, r"^[A-Za-z]\w*$", path)
                self.assertNotIn(name, BARRED_NAMES, (path, node.lineno))
                self.assertFalse(hasattr(builtins, name), (path, name, node.lineno))
                self.assertNotIn(name, taken, (path, node.lineno))
            for node in nodes(tree, ast.FunctionDef, ast.ClassDef):
                if node.name != "__init__":
                    self.assertRegex(node.name, r"^[A-Za-z]\w*$", path)
                    self.assertFalse(hasattr(builtins, node.name) or node.name in BARRED_NAMES, (path, node.name))

    def test_builtins_and_methods(self):
        methods = METHODS | set(own_methods())
        for path, text, tree in package():
            own = {name for name, node in bound_names(tree)}
            own |= {node.name for node in nodes(tree, ast.FunctionDef, ast.ClassDef)}
            own |= {alias.name for node in nodes(tree, ast.ImportFrom) for alias in node.names}
            for node in nodes(tree, ast.Name):
                self.assertTrue(node.id in own or node.id in BUILTINS, (path, node.id, node.lineno))
            for node in nodes(tree, ast.Call):
                if isinstance(node.func, ast.Attribute):
                    self.assertIn(node.func.attr, methods, (path, node.lineno))

    def test_classes(self):
        attributes = set()
        for path, text, tree in package():
            for node in nodes(tree, ast.Attribute):
                if isinstance(node.ctx, ast.Store):
                    self.assertEqual(getattr(node.value, "id", None), "self", (path, node.lineno))
                    attributes.add(node.attr)
        self.assertEqual(attributes & (set(own_methods()) | METHODS), set())
        for kind in (str, int, list, dict, set, bytes, tuple):
            self.assertEqual((attributes | set(own_methods()) - {"__init__"}) & set(dir(kind)), set())

    def test_is_and_handlers(self):
        for path, text, tree in package():
            for node in nodes(tree, ast.Compare):
                for op, side in zip(node.ops, node.comparators):
                    if isinstance(op, (ast.Is, ast.IsNot)):
                        self.assertTrue(isinstance(side, ast.Constant) and side.value in (None, True, False), path)
            for node in nodes(tree, ast.ExceptHandler):
                self.assertIsInstance(node.type, ast.Name, path)
            for node in nodes(tree, ast.Raise):
                self.assertTrue(node.exc is None or called_name(node.exc), (path, node.lineno))

    def test_lazy_things_are_iterated_at_once(self):
        for path, text, tree in package():
            above = parents(tree)
            for node in nodes(tree, ast.GeneratorExp):
                around = above[node]
                joins = isinstance(around.func, ast.Attribute) and around.func.attr == "join"
                self.assertTrue(called_name(around) in EAGER or joins, (path, node.lineno))
            for node in nodes(tree, ast.Call):
                if called_name(node) in LAZY or (isinstance(node.func, ast.Attribute) and node.func.attr == "items"):
                    around = above[node]
                    looped = isinstance(around, (ast.For, ast.comprehension)) and around.iter is node
                    self.assertTrue(looped or called_name(around) in EAGER + LAZY, (path, node.lineno))

    def test_sets_are_not_used(self):
        """The package has no sets: dicts of True serve."""
        for path, text, tree in package():
            self.assertEqual(nodes(tree, ast.Set, ast.SetComp), [], path)
            self.assertFalse([node for node in nodes(tree, ast.Call) if called_name(node) in ("set", "frozenset")], path)

    def test_loops_do_not_change_what_they_go_through(self):
        changing = ("append", "clear", "extend", "insert", "pop", "remove", "reverse", "setdefault", "update", "sort")
        for path, text, tree in package():
            for loop in nodes(tree, ast.For):
                through = {node.id for node in nodes(loop.iter, ast.Name)}
                for node in nodes(loop, ast.Call):
                    if isinstance(node.func, ast.Attribute) and node.func.attr in changing:
                        touched = {part.id for part in nodes(node.func.value, ast.Name)}
                        if isinstance(node.func.value, ast.Name):
                            self.assertEqual(touched & through, set(), (path, node.lineno))


if __name__ == "__main__":
    unittest.main()
