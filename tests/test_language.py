"""The package keeps to the part of Python that it is written in, as far as a look at its files can tell."""

import ast
import builtins
import pathlib
import re
import unittest

PACKAGE = pathlib.Path(__file__).resolve().parent.parent / "stakefield"

STATEMENTS = (
    ast.Module, ast.FunctionDef, ast.ClassDef, ast.ImportFrom, ast.Assign, ast.AugAssign, ast.If, ast.While, ast.For,
    ast.Return, ast.Break, ast.Continue, ast.Pass, ast.Raise, ast.Try, ast.ExceptHandler, ast.Expr,
)
EXPRESSIONS = (
    ast.Constant, ast.Name, ast.List, ast.Tuple, ast.Dict, ast.Set, ast.BinOp, ast.UnaryOp, ast.BoolOp, ast.Compare,
    ast.IfExp, ast.Call, ast.keyword, ast.Attribute, ast.Subscript, ast.Slice, ast.ListComp, ast.comprehension,
    ast.JoinedStr, ast.FormattedValue, ast.Lambda, ast.arguments, ast.arg, ast.alias,
)
SIGNS = (ast.operator, ast.unaryop, ast.boolop, ast.cmpop, ast.expr_context)
OWN_NAMES = set("""
    len range enumerate zip min max sum abs sorted reversed int str bool list tuple dict set frozenset isinstance ord repr
    any all divmod Exception ValueError TypeError KeyError IndexError LookupError ZeroDivisionError ArithmeticError
    OverflowError RuntimeError NotImplementedError AttributeError StopIteration
""".split())
METHODS = set("""
    append clear copy count endswith extend find get index insert isalnum isalpha isdigit islower isspace isupper items
    join keys ljust lower lstrip partition pop remove replace reverse rfind rjust rpartition rsplit rstrip setdefault split
    splitlines startswith strip update upper values zfill bit_length
""".split())
WORDS = set("""
    type typing typing_extensions enum Enum IntEnum StrEnum Flag IntFlag Generic Protocol ABC ABCMeta namedtuple NamedTuple
    TypedDict TYPE_CHECKING abstractmethod
""".split())
WALKED = {"zip", "enumerate", "reversed", "range", "items", "keys", "values"}
WALKERS = {"list", "tuple", "dict", "sorted", "sum", "any", "all", "enumerate", "zip", "min", "max", "join"}
KEYWORDS = {
    "sorted": {"key", "reverse"}, "min": {"key", "default"}, "max": {"key", "default"}, "sum": {"start"}, "enumerate": {"start"},
    "zip": {"strict"},
}
KEYS = {"len", "int", "str", "abs", "sum", "min", "max", "tuple"}
VALUES = {"count", "index", "title", "find", "get", "join", "lower", "upper", "split", "strip", "copy", "add"}
CHANGES = {"append", "clear", "extend", "insert", "pop", "remove", "reverse", "setdefault", "update"}
READERS = {"len", "list", "tuple", "dict", "sorted", "sum", "min", "max", "any", "all", "enumerate", "zip", "reversed"}
TAKEN = {"KeyError", "ZeroDivisionError", "StopIteration", "ValueError", "LookupError", "IndexError"}
TWO_UNDERSCORES = {"__init__", "__eq__", "__repr__", "__str__", "__len__", "__all__", "__version__"}


def files():
    return sorted(PACKAGE.rglob("*.py"))


def bound_names(tree):
    """Each name that a tree binds, with the row it stands in."""
    for node in ast.walk(tree):
        if isinstance(node, (ast.FunctionDef, ast.ClassDef)):
            yield node.name, node.lineno
        elif isinstance(node, ast.arg):
            yield node.arg, node.lineno
        elif isinstance(node, ast.Name) and isinstance(node.ctx, ast.Store):
            yield node.id, node.lineno


def called(node):
    """The name by which a call calls, or None."""
    if not isinstance(node, ast.Call):
        return None
    return node.func.id if isinstance(node.func, ast.Name) else getattr(node.func, "attr", None)


def own_of_python():
    """The names that Python's own texts, numbers, lists, dicts, sets and bytes have as a method or a value."""
    return {name for kind in (str, int, bool, list, tuple, dict, set, frozenset, bytes, bytearray) for name in dir(kind)}


def drawn_from(tree):
    return [node.module.split(".")[1] for node in ast.walk(tree) if isinstance(node, ast.ImportFrom)]


class LanguageTest(unittest.TestCase):
    def setUp(self):
        self.texts = {path: path.read_bytes().decode("ascii") for path in files()}
        self.trees = {path: ast.parse(text) for path, text in self.texts.items()}

    def nodes(self):
        for path, tree in self.trees.items():
            for node in ast.walk(tree):
                yield f"{path.name}:{getattr(node, 'lineno', 0)}", node

    def test_files(self):
        self.assertIn(PACKAGE / "__init__.py", files())
        for path in PACKAGE.iterdir():
            if path.name != "__pycache__":
                self.assertRegex(path.name, r"^([a-z][a-z0-9_]*|__init__|__main__)\.py$")

    def test_signs_and_sizes(self):
        for path, text in self.texts.items():
            rows = text.split("\n")
            self.assertRegex(text, r"\A[ -~\n]*\Z", path.name)
            self.assertLessEqual(len(rows), 400, path.name)
            self.assertLessEqual(max(map(len, rows)), 120, path.name)
        for place, node in self.nodes():
            if isinstance(node, ast.FunctionDef):
                self.assertLessEqual(node.end_lineno - node.lineno + 1, 40, place)

    def test_words(self):
        for path, text in self.texts.items():
            self.assertEqual(set(re.findall(r"\w+", text)) & WORDS, set(), path.name)
            self.assertIsNone(re.search("dataclass|overload|contextmanager", text), path.name)

    def test_kinds_of_node(self):
        for place, node in self.nodes():
            self.assertIsInstance(node, STATEMENTS + EXPRESSIONS + SIGNS, place)
            self.assertNotIsInstance(node, (ast.Div, ast.MatMult), place)
            if isinstance(node, ast.Constant):
                self.assertIn(type(node.value), (int, str, bool, type(None)), place)
            if isinstance(node, (ast.For, ast.While)):
                self.assertEqual(node.orelse, [], place)
            if isinstance(node, ast.Try):
                self.assertEqual(node.finalbody, [], place)
            if isinstance(node, (ast.FunctionDef, ast.ClassDef)):
                self.assertEqual(node.decorator_list, [], place)
            if isinstance(node, ast.Compare) and any(isinstance(sign, (ast.Is, ast.IsNot)) for sign in node.ops):
                self.assertIsInstance(node.comparators[0], ast.Constant, place)
                self.assertIn(node.comparators[0].value, (None, True, False), place)

    def test_assignments_have_one_target(self):
        for place, node in self.nodes():
            if isinstance(node, ast.Assign):
                self.assertEqual(len(node.targets), 1, place)
                self.assertIsInstance(node.targets[0], (ast.Name, ast.Attribute, ast.Subscript), place)

    def test_parameters_are_plain(self):
        for place, node in self.nodes():
            if isinstance(node, ast.arguments):
                self.assertEqual((node.vararg, node.kwarg, node.kwonlyargs, node.posonlyargs), (None, None, [], []), place)
            if isinstance(node, ast.comprehension):
                self.assertLessEqual(len(node.ifs), 1, place)
            if isinstance(node, ast.ListComp):
                self.assertEqual(len(node.generators), 1, place)

    def test_imports(self):
        for path, tree in self.trees.items():
            for node in ast.walk(tree):
                if isinstance(node, ast.ImportFrom):
                    self.assertIn(node, tree.body, path.name)
                    self.assertEqual(node.level, 0, path.name)
                    self.assertRegex(node.module, r"^stakefield\.[a-z_]+$", path.name)
                    source = self.trees[PACKAGE / (node.module.split(".")[1] + ".py")]
                    defined = [own.name for own in source.body if isinstance(own, (ast.FunctionDef, ast.ClassDef))]
                    for name in node.names:
                        self.assertIn(name.name, defined, path.name)
                        self.assertIsNone(name.asname, path.name)

    def test_no_two_files_draw_from_one_another(self):
        drawn = {path.stem: drawn_from(tree) for path, tree in self.trees.items()}
        left = set(drawn)
        while left:
            free = {name for name in left if not left & set(drawn[name])}
            self.assertNotEqual(free, set(), f"a ring among {sorted(left)}")
            left -= free

    def test_walked_on_the_spot(self):
        for path, tree in self.trees.items():
            fine = []
            for node in ast.walk(tree):
                if isinstance(node, (ast.For, ast.comprehension)):
                    fine.append(node.iter)
                elif called(node) in WALKERS:
                    fine += node.args if called(node) == "zip" else node.args[:1]
            for node in ast.walk(tree):
                if called(node) in WALKED:
                    self.assertIn(node, fine, f"{path.name}:{node.lineno}")

    def test_sets_are_asked_on_the_spot(self):
        for path, tree in self.trees.items():
            fine = []
            for node in ast.walk(tree):
                if called(node) in ("sorted", "len") and not node.keywords:
                    fine += node.args
                elif isinstance(node, ast.Compare):
                    fine += [node.left] + node.comparators
            for node in ast.walk(tree):
                if isinstance(node, ast.Set) or called(node) in ("set", "frozenset"):
                    self.assertIn(node, fine, f"{path.name}:{node.lineno}")

    def test_the_top_of_a_file_binds_each_name_once(self):
        for path, tree in self.trees.items():
            names = []
            for node in tree.body:
                if isinstance(node, (ast.FunctionDef, ast.ClassDef)):
                    names.append(node.name)
                elif isinstance(node, ast.ImportFrom):
                    names += [name.name for name in node.names]
                elif isinstance(node, ast.Assign):
                    names.append(node.targets[0].id)
                    self.assertIsInstance(node.value, (ast.Constant, ast.List, ast.Tuple, ast.Dict), path.name)
                else:
                    self.assertIsInstance(node, ast.Expr, path.name)
            self.assertEqual(sorted(names), sorted(set(names)), path.name)

    def test_names(self):
        for path, tree in self.trees.items():
            for name, row in bound_names(tree):
                place = f"{path.name}:{row} {name}"
                if name not in TWO_UNDERSCORES:
                    self.assertRegex(name, r"^[A-Za-z]\w*$", place)
                    self.assertFalse(hasattr(builtins, name), place)

    def test_no_local_is_called_like_a_class_or_an_import(self):
        for path, tree in self.trees.items():
            taken = [node.name for node in tree.body if isinstance(node, ast.ClassDef)]
            for node in tree.body:
                if isinstance(node, ast.ImportFrom):
                    taken += [name.name for name in node.names]
            for own in ast.walk(tree):
                if isinstance(own, (ast.arg, ast.Name)):
                    name = own.arg if isinstance(own, ast.arg) else own.id
                    stored = isinstance(own, ast.arg) or isinstance(own.ctx, ast.Store)
                    self.assertFalse(stored and name in taken, f"{path.name}:{own.lineno} {name}")

    def test_names_of_pythons_own(self):
        for place, node in self.nodes():
            if isinstance(node, ast.Name) and hasattr(builtins, node.id):
                self.assertIn(node.id, OWN_NAMES, place)

    def test_keywords(self):
        for place, node in self.nodes():
            if isinstance(node, ast.Call) and (called(node) in METHODS or hasattr(builtins, called(node) or "")):
                given = {keyword.arg for keyword in node.keywords}
                self.assertLessEqual(given, KEYWORDS.get(called(node), set()), place)

    def test_pythons_own_are_called_where_they_stand(self):
        for path, tree in self.trees.items():
            fine = []
            for node in ast.walk(tree):
                if isinstance(node, ast.Call):
                    fine.append(node.func)
                    fine += [own for own in ast.walk(node.args[1])] if called(node) == "isinstance" else []
                    fine += [own.value for own in node.keywords if getattr(own.value, "id", None) in KEYS]
                elif isinstance(node, ast.ClassDef):
                    fine += node.bases
                elif isinstance(node, ast.ExceptHandler):
                    fine += [own for own in ast.walk(node.type)]
            for node in ast.walk(tree):
                if isinstance(node, ast.Name) and node.id in OWN_NAMES:
                    self.assertIn(node, fine, f"{path.name}:{node.lineno} {node.id}")

    def test_numbers_and_texts(self):
        for place, node in self.nodes():
            if isinstance(node, ast.BinOp) and isinstance(node.op, ast.Pow):
                self.assertIn(getattr(node.right, "value", None), range(65), place)
            if isinstance(node, ast.Constant) and isinstance(node.value, str):
                self.assertNotIn("%", node.value, place)
        for path, text in self.texts.items():
            self.assertIsNone(re.search(r"\\[^nt\\\"']", text), path.name)

    def test_lambdas_on_one_line(self):
        rows = [(place, ast.dump(node.args)) for place, node in self.nodes() if isinstance(node, ast.Lambda)]
        self.assertEqual(sorted(rows), sorted(set(rows)))

    def test_classes(self):
        methods, values = [], set()
        for path, tree in self.trees.items():
            for node in ast.walk(tree):
                if isinstance(node, ast.ClassDef):
                    place = f"{path.name}:{node.lineno} {node.name}"
                    self.assertIn(node, tree.body, place)
                    self.assertEqual((len(node.bases) < 2, node.keywords), (True, []), place)
                    own = [part.name for part in node.body if isinstance(part, ast.FunctionDef)]
                    self.assertEqual(len(own), len(set(own)), place)
                    self.assertTrue(own or isinstance(node.body[0], ast.Pass), place)
                    methods += [name for name in own if not name.startswith("__")]
                    values |= {part.attr for part in ast.walk(node) if isinstance(getattr(part, "ctx", None), ast.Store)
                               and isinstance(part, ast.Attribute)}
        self.assertEqual(set(methods) & values, set())
        self.assertEqual(set(methods) & (own_of_python() - METHODS - {"add", "discard"}), set())
        self.assertEqual(values & (own_of_python() - VALUES), set())

    def test_values_are_given_through_a_local_name(self):
        for place, node in self.nodes():
            if isinstance(node, ast.Attribute) and isinstance(node.ctx, ast.Store):
                self.assertIsInstance(node.value, ast.Name, place)
                self.assertTrue(node.value.id.islower(), place)

    def test_the_methods_with_two_underscores(self):
        for place, node in self.nodes():
            if isinstance(node, ast.FunctionDef) and node.name == "__init__":
                self.assertFalse(any(isinstance(own, ast.Return) for own in ast.walk(node)), place)
            elif isinstance(node, ast.FunctionDef):
                self.assertFalse(node.name.startswith("__"), place)

    def test_errors_are_made_on_the_spot_and_taken_by_name(self):
        refusals = {node.name for node in self.trees[PACKAGE / "errors.py"].body if isinstance(node, ast.ClassDef)}
        for place, node in self.nodes():
            if isinstance(node, ast.Raise):
                self.assertIn(called(node.exc), refusals, place)
            elif isinstance(node, ast.ExceptHandler):
                self.assertIsNotNone(node.type, place)
                self.assertLessEqual({own.id for own in ast.walk(node.type) if isinstance(own, ast.Name)}, refusals | TAKEN, place)

    def test_lists_of_a_file_s_top_are_only_read(self):
        for path, tree in self.trees.items():
            kept = [node.targets[0].id for node in tree.body if isinstance(node, ast.Assign)
                    and isinstance(node.value, (ast.List, ast.Dict))]
            fine = []
            for node in ast.walk(tree):
                if isinstance(node, ast.Subscript) and isinstance(node.ctx, ast.Load):
                    fine.append(node.value)
                elif isinstance(node, (ast.For, ast.comprehension)):
                    fine.append(node.iter)
                elif isinstance(node, ast.Compare):
                    fine += node.comparators
                elif called(node) in READERS:
                    fine += node.args
                elif called(node) in METHODS - CHANGES and isinstance(node.func, ast.Attribute):
                    fine.append(node.func.value)
            for node in ast.walk(tree):
                if isinstance(node, ast.Name) and node.id in kept and isinstance(node.ctx, ast.Load):
                    self.assertIn(node, fine, f"{path.name}:{node.lineno} {node.id}")
            for node in tree.body:
                if isinstance(node, ast.Assign) and isinstance(node.value, (ast.List, ast.Dict)):
                    within = list(ast.walk(node.value))[1:]
                    self.assertFalse(any(isinstance(own, (ast.List, ast.Dict)) for own in within), f"{path.name}:{node.lineno}")

    def test_methods(self):
        own = {node.name for place, node in self.nodes() if isinstance(node, ast.FunctionDef)}
        for place, node in self.nodes():
            if isinstance(node, ast.Call) and isinstance(node.func, ast.Attribute):
                self.assertIn(node.func.attr, METHODS | own, place)


if __name__ == "__main__":
    unittest.main()
