"""The rules of the language that can be seen from a file's tree and its signs, over the package's files."""

import ast
import pathlib
import re
import unittest

PACKAGE = pathlib.Path(__file__).resolve().parent.parent / "cutpaper"

STATEMENTS = (
    ast.Assign, ast.AugAssign, ast.If, ast.While, ast.For, ast.Return, ast.Break, ast.Continue, ast.Pass,
    ast.Raise, ast.Try, ast.Expr, ast.FunctionDef, ast.ClassDef, ast.ImportFrom,
)
EXPRESSIONS = (
    ast.BinOp, ast.UnaryOp, ast.BoolOp, ast.Compare, ast.IfExp, ast.Call, ast.Attribute, ast.Subscript, ast.Slice,
    ast.ListComp, ast.JoinedStr, ast.FormattedValue, ast.Constant, ast.List, ast.Tuple, ast.Dict, ast.Set,
    ast.Name, ast.Lambda,
)
OWN_NAMES = set(
    "len range enumerate zip min max sum abs sorted reversed int str bool list tuple dict set frozenset isinstance"
    " ord repr any all divmod Exception ValueError TypeError KeyError IndexError LookupError ZeroDivisionError"
    " ArithmeticError OverflowError RuntimeError NotImplementedError AttributeError StopIteration".split()
)
METHODS = set(
    "append clear copy count endswith extend find get index insert isalnum isalpha isdigit islower isspace isupper"
    " items join keys ljust lower lstrip partition pop remove replace reverse rfind rjust rpartition rsplit rstrip"
    " setdefault split splitlines startswith strip update upper values zfill bit_length".split()
)
WORDS = (
    r"\b(type|typing|typing_extensions|enum|Enum|IntEnum|StrEnum|Flag|IntFlag|Generic|Protocol|ABC|ABCMeta"
    r"|namedtuple|NamedTuple|TypedDict|TYPE_CHECKING|abstractmethod)\b|dataclass|overload|contextmanager"
)
UNUSED = set(
    "register mro elements open input version_info with_traceback add_note attrgetter breakpoint builtins compile"
    " copyright credits delattr dir eval exec exit gc getattr globals hasattr help id importlib license locals"
    " methodcaller os quit setattr super type vars sys chr format format_map print".split()
)
WALKED_AT_ONCE = ["zip", "enumerate", "reversed", "range", "items", "keys", "values"]
MODULES = sorted(PACKAGE.glob("*.py"))


def tree_of(path):
    return ast.parse(path.read_text(encoding="utf-8"))


def bound_names(tree):
    names = []
    for node in ast.walk(tree):
        if isinstance(node, (ast.FunctionDef, ast.ClassDef)):
            names.append(node.name)
        if isinstance(node, ast.Name) and isinstance(node.ctx, ast.Store):
            names.append(node.id)
        if isinstance(node, ast.arg):
            names.append(node.arg)
    return names


def imported_names(tree):
    return [name.name for node in ast.walk(tree) if isinstance(node, ast.ImportFrom) for name in node.names]


def called_name(node):
    return node.func.id if isinstance(node.func, ast.Name) else node.func.attr


class Language(unittest.TestCase):
    def test_files(self):
        self.assertIn(PACKAGE / "__init__.py", MODULES)
        for path in PACKAGE.iterdir():
            if path.name != "__pycache__":
                self.assertTrue(path.is_file())
                self.assertRegex(path.name, r"^([a-z][a-z0-9_]*|__init__|__main__)\.py$")

    def test_signs_sizes_and_words(self):
        for path in MODULES:
            text = path.read_bytes().decode("utf-8")
            self.assertRegex(text, r"\A[ -~\n]*\Z")
            self.assertIsNone(re.search(WORDS, text), path)
            self.assertLessEqual(len(text.splitlines()), 400)
            self.assertLessEqual(max(len(line) for line in text.splitlines()), 120)

    def test_statements_and_expressions(self):
        for path in MODULES:
            tree = tree_of(path)
            for node in ast.walk(tree):
                where = (path.name, getattr(node, "lineno", 0), ast.dump(node)[:60])
                if isinstance(node, ast.stmt):
                    self.assertIsInstance(node, STATEMENTS, where)
                if isinstance(node, ast.expr):
                    self.assertIsInstance(node, EXPRESSIONS, where)
                if isinstance(node, ast.Assign):
                    self.assertEqual(len(node.targets), 1, where)
                if isinstance(node, ast.Constant):
                    self.assertIn(node.value.__class__, (int, str, bool, None.__class__), where)
                if isinstance(node, ast.ListComp):
                    self.assertEqual(len(node.generators), 1, where)
                    self.assertLessEqual(len(node.generators[0].ifs), 1, where)
                if isinstance(node, (ast.For, ast.While)):
                    self.assertEqual(node.orelse, [], where)
                if isinstance(node, ast.Try):
                    self.assertEqual(node.finalbody, [], where)
                self.assertNotIsInstance(node, (ast.Div, ast.MatMult), where)

    def test_only_the_module_has_a_docstring(self):
        for path in MODULES:
            tree = tree_of(path)
            self.assertIsNotNone(ast.get_docstring(tree))
            for node in ast.walk(tree):
                if isinstance(node, ast.Expr) and node is not tree.body[0]:
                    self.assertIsInstance(node.value, ast.Call, (path.name, node.lineno))

    def test_functions_and_classes(self):
        for path in MODULES:
            for node in ast.walk(tree_of(path)):
                if isinstance(node, ast.FunctionDef):
                    self.assertLessEqual(node.end_lineno - node.lineno + 1, 40)
                    self.assertEqual(node.decorator_list, [])
                    self.assertIsNone(node.returns)
                    self.assertIsNone(node.args.vararg)
                    self.assertIsNone(node.args.kwarg)
                    self.assertEqual(node.args.kwonlyargs + node.args.posonlyargs, [])
                if isinstance(node, ast.ClassDef):
                    self.assertEqual(node.decorator_list + node.keywords, [])
                    self.assertLessEqual(len(node.bases), 1)
                    for part in node.body:
                        self.assertIsInstance(part, (ast.FunctionDef, ast.Pass))

    def test_imports(self):
        for path in MODULES:
            for node in ast.walk(tree_of(path)):
                if isinstance(node, ast.ImportFrom):
                    self.assertEqual(node.level, 0)
                    drawn_from = PACKAGE / (node.module.removeprefix("cutpaper.") + ".py")
                    self.assertIn(drawn_from, MODULES)
                    top = [part.name for part in tree_of(drawn_from).body if hasattr(part, "name")]
                    for name in node.names:
                        self.assertIn(name.name, top)

    def test_names(self):
        for path in MODULES:
            tree = tree_of(path)
            bound = bound_names(tree)
            imported = imported_names(tree)
            for name in bound:
                if name != "__init__":
                    self.assertRegex(name, r"^[A-Za-z][A-Za-z0-9_]*$")
                self.assertNotIn(name, OWN_NAMES | UNUSED | set(imported), path)
            for node in ast.walk(tree):
                if isinstance(node, ast.Name):
                    self.assertIn(node.id, OWN_NAMES | set(bound) | set(imported), path)
                if isinstance(node, ast.Attribute):
                    self.assertNotIn(node.attr, UNUSED, path)

    def test_methods_that_are_called(self):
        for path in MODULES:
            tree = tree_of(path)
            for node in ast.walk(tree):
                if isinstance(node, ast.Call) and isinstance(node.func, ast.Attribute):
                    self.assertIn(node.func.attr, METHODS | set(bound_names(tree)), path)

    def test_top_names_stand_once(self):
        for path in MODULES:
            tree = tree_of(path)
            top = imported_names(tree)
            for part in tree.body:
                if isinstance(part, (ast.FunctionDef, ast.ClassDef)):
                    top.append(part.name)
                if isinstance(part, ast.Assign):
                    top.append(part.targets[0].id)
            self.assertEqual(len(top), len(set(top)), path)

    def test_is_stands_beside_none_true_and_false(self):
        for path in MODULES:
            for node in ast.walk(tree_of(path)):
                if isinstance(node, ast.Compare):
                    for operator, beside in zip(node.ops, node.comparators):
                        if isinstance(operator, (ast.Is, ast.IsNot)):
                            self.assertIsInstance(beside, ast.Constant, (path.name, node.lineno))
                            self.assertIn(beside.value, (None, True, False))

    def test_keywords(self):
        allowed = {"sorted": ["key", "reverse"], "min": ["key", "default"], "max": ["key", "default"]}
        allowed.update({"sum": ["start"], "enumerate": ["start"], "zip": ["strict"]})
        for path in MODULES:
            for node in ast.walk(tree_of(path)):
                if isinstance(node, ast.Call) and isinstance(node.func, ast.Name) and node.func.id in OWN_NAMES:
                    for keyword in node.keywords:
                        self.assertIn(keyword.arg, allowed.get(node.func.id, []), (path.name, node.lineno))

    def test_walked_at_once(self):
        walkers = ["list", "tuple", "dict", "sorted", "sum", "any", "all", "enumerate", "zip", "min", "max"]
        for path in MODULES:
            tree = tree_of(path)
            walked = []
            for node in ast.walk(tree):
                if isinstance(node, (ast.For, ast.comprehension)):
                    walked.append(node.iter)
                if isinstance(node, ast.Call) and isinstance(node.func, ast.Name) and node.func.id in walkers:
                    walked += node.args
                if isinstance(node, ast.Call) and isinstance(node.func, ast.Attribute) and node.func.attr == "join":
                    self.assertIsInstance(node.func.value, ast.Constant, (path.name, node.lineno))
                    walked += node.args
            for node in ast.walk(tree):
                if isinstance(node, ast.Call) and called_name(node) in WALKED_AT_ONCE:
                    self.assertIn(node, walked, (path.name, node.lineno))

    def test_sets_are_not_kept(self):
        for path in MODULES:
            tree = tree_of(path)
            passing = []
            for node in ast.walk(tree):
                if isinstance(node, ast.Compare):
                    passing += [node.left] + node.comparators
                if isinstance(node, ast.Call) and called_name(node) in ["sorted", "len"]:
                    passing += node.args
            for node in ast.walk(tree):
                if isinstance(node, ast.Set) or isinstance(node, ast.Call) and called_name(node) == "set":
                    self.assertIn(node, passing, (path.name, node.lineno))

    def test_numbers_and_texts(self):
        for path in MODULES:
            for node in ast.walk(tree_of(path)):
                if isinstance(node, ast.BinOp) and isinstance(node.op, ast.Pow):
                    self.assertIsInstance(node.right, ast.Constant, (path.name, node.lineno))
                    self.assertIn(node.right.value, range(65))
                if isinstance(node, ast.Constant) and isinstance(node.value, str):
                    self.assertNotIn("%", node.value)
                if isinstance(node, ast.FormattedValue):
                    self.assertIsInstance(node.value, ast.Name, (path.name, node.lineno))

    def test_the_top_of_a_module(self):
        for path in MODULES:
            tree = tree_of(path)
            for part in tree.body[1:]:
                kinds = (ast.ImportFrom, ast.FunctionDef, ast.ClassDef, ast.Assign)
                self.assertIsInstance(part, kinds, (path.name, part.lineno))
                if isinstance(part, ast.Assign):
                    ast.literal_eval(part.value)
            for node in ast.walk(tree):
                if isinstance(node, (ast.ImportFrom, ast.ClassDef)):
                    self.assertIn(node, tree.body, (path.name, node.lineno))

    def test_no_two_files_draw_from_one_another(self):
        drawn = {}
        for path in MODULES:
            nodes = [node for node in ast.walk(tree_of(path)) if isinstance(node, ast.ImportFrom)]
            drawn["cutpaper." + path.stem] = sorted(set(node.module for node in nodes))
        while drawn:
            free = [name for name in drawn if not any(other in drawn for other in drawn[name])]
            self.assertNotEqual(free, [], drawn)
            for name in free:
                del drawn[name]


if __name__ == "__main__":
    unittest.main()
