"""The package's own files keep to the small part of Python that is asked for, as far as a plain look can tell."""

import ast
import builtins
import pathlib
import re
import unittest

PACKAGE = pathlib.Path(__file__).resolve().parent.parent / "graphpack"

NAMES = set("""len range enumerate zip min max sum abs sorted reversed int str bool list tuple dict set frozenset
isinstance ord repr any all divmod Exception ValueError TypeError KeyError IndexError LookupError ZeroDivisionError
ArithmeticError OverflowError RuntimeError NotImplementedError AttributeError StopIteration""".split())

METHODS = set("""append clear copy count endswith extend find get index insert isalnum isalpha isdigit islower isspace
isupper items join keys ljust lower lstrip partition pop remove replace reverse rfind rjust rpartition rsplit rstrip
setdefault split splitlines startswith strip update upper values zfill bit_length""".split())

WORDS = set("""type typing typing_extensions enum Enum IntEnum StrEnum Flag IntFlag Generic Protocol ABC ABCMeta
namedtuple NamedTuple TypedDict TYPE_CHECKING abstractmethod""".split())

# Names that values of objects may bear though Python's own values have them as methods.
SHARED_VALUES = set("count index title find get join lower upper split strip copy add".split())

PYTHON_VALUES = (str, int, list, tuple, dict, set, frozenset, bytes, bytearray)

UNUSED = set("register mro elements open input version_info with_traceback add_note format format_map".split())

NODES = (
    ast.Module, ast.FunctionDef, ast.ClassDef, ast.arguments, ast.arg, ast.ImportFrom, ast.alias, ast.Assign,
    ast.AugAssign, ast.If, ast.While, ast.For, ast.Return, ast.Break, ast.Continue, ast.Pass, ast.Raise, ast.Try,
    ast.ExceptHandler, ast.Expr, ast.Constant, ast.List, ast.Tuple, ast.Dict, ast.Set, ast.BinOp, ast.UnaryOp,
    ast.BoolOp, ast.Compare, ast.IfExp, ast.Call, ast.keyword, ast.Attribute, ast.Subscript, ast.Slice, ast.ListComp,
    ast.comprehension, ast.JoinedStr, ast.FormattedValue, ast.Lambda, ast.Name, ast.expr_context, ast.operator,
    ast.unaryop, ast.boolop, ast.cmpop,
)


def sources():
    return [(path, path.read_text("utf-8")) for path in sorted(PACKAGE.glob("*.py"))]


def own_classes(trees):
    return [node for tree in trees for node in ast.walk(tree) if isinstance(node, ast.ClassDef)]


def own_methods(trees):
    return {item.name for node in own_classes(trees) for item in node.body if isinstance(item, ast.FunctionDef)}


def own_values(trees):
    """The names under which objects keep something."""
    return {node.attr for tree in trees for node in ast.walk(tree)
            if isinstance(node, ast.Attribute) and isinstance(node.ctx, ast.Store)}


class LanguageTest(unittest.TestCase):
    def test_the_folder_holds_plain_files_alone(self):
        for path in PACKAGE.iterdir():
            if path.name != "__pycache__":
                self.assertRegex(path.name, r"^(__init__|[a-z][a-z0-9_]*)\.py$")
        self.assertTrue((PACKAGE / "__init__.py").is_file())

    def test_signs_lines_and_words(self):
        for path, text in sources():
            with self.subTest(path.name):
                self.assertRegex(text, r"\A[ -~\n]*\Z")
                lines = text.splitlines()
                self.assertLessEqual(len(lines), 400)
                self.assertLessEqual(max([len(line) for line in lines]), 120)
                self.assertEqual(set(re.findall(r"\w+", text)) & WORDS, set())
                self.assertIsNone(re.search("dataclass|overload|contextmanager", text))

    def test_every_step_is_one_of_the_small_part(self):
        for path, text in sources():
            for node in ast.walk(ast.parse(text)):
                with self.subTest(path=path.name, line=getattr(node, "lineno", 0)):
                    self.assertIsInstance(node, NODES)
                    self.check_node(node)

    def check_node(self, node):
        if isinstance(node, ast.FunctionDef):
            self.assertLessEqual(node.end_lineno - node.lineno + 1, 40)
            self.assertEqual((node.decorator_list, node.args.vararg, node.args.kwarg, node.args.kwonlyargs),
                             ([], None, None, []))
        if isinstance(node, ast.Assign):
            self.assertEqual(len(node.targets), 1)
            self.assertNotIsInstance(node.targets[0], (ast.Tuple, ast.List))
        if isinstance(node, (ast.For, ast.While)):
            self.assertEqual(node.orelse, [])
        if isinstance(node, ast.comprehension):
            self.assertLessEqual(len(node.ifs), 1)
        if isinstance(node, ast.ListComp):
            self.assertEqual(len(node.generators), 1)
        if isinstance(node, ast.Constant):
            self.assertNotIsInstance(node.value, (float, complex, bytes))
            self.assertNotIn("%", node.value if isinstance(node.value, str) else "")
        if isinstance(node, ast.FormattedValue):
            self.assertIsInstance(node.value, ast.Name)
            self.assertIsNone(node.format_spec)
        if isinstance(node, ast.BinOp):
            self.assertNotIsInstance(node.op, ast.Div)

    def test_no_parameter_and_no_local_is_called_like_an_import_or_a_class_of_its_file(self):
        for path, text in sources():
            tree = ast.parse(text)
            taken = {node.name for node in tree.body if isinstance(node, ast.ClassDef)}
            for node in tree.body:
                if isinstance(node, ast.ImportFrom):
                    taken |= {alias.name for alias in node.names}
            for node in ast.walk(tree):
                if isinstance(node, ast.arg):
                    self.assertNotIn(node.arg, taken, path.name)
                if isinstance(node, ast.Name) and isinstance(node.ctx, ast.Store):
                    self.assertNotIn(node.id, taken, path.name)

    def test_is_stands_beside_none_true_and_false_alone(self):
        for path, text in sources():
            for node in ast.walk(ast.parse(text)):
                if isinstance(node, ast.Compare) and isinstance(node.ops[0], (ast.Is, ast.IsNot)):
                    beside = node.comparators[0]
                    self.assertIsInstance(beside, ast.Constant, path.name)
                    self.assertIn(beside.value, (None, True, False), path.name)

    def test_imports_are_the_packages_own_and_no_two_files_draw_from_one_another(self):
        drawn = {}
        for path, text in sources():
            here = drawn.setdefault(path.stem, set())
            for node in ast.walk(ast.parse(text)):
                if isinstance(node, ast.ImportFrom):
                    self.assertEqual(node.level, 0, path.name)
                    self.assertRegex(node.module, r"^graphpack\.[a-z_]+$")
                    here.update((node.module.split(".")[1], "__init__"))
        for start in drawn:
            reached, waiting = set(), list(drawn[start])
            while waiting:
                name = waiting.pop()
                if name not in reached:
                    reached.add(name)
                    waiting.extend(drawn[name])
            self.assertNotIn(start, reached)

    def test_classes_hold_methods_alone_each_once(self):
        for node in own_classes([ast.parse(text) for _, text in sources()]):
            methods = [item.name for item in node.body if isinstance(item, ast.FunctionDef)]
            self.assertEqual(len(set(methods)), len(methods), node.name)
            self.assertTrue(all(isinstance(item, (ast.FunctionDef, ast.Pass)) for item in node.body), node.name)
            self.assertLessEqual(len(node.bases), 1)
            self.assertEqual((node.decorator_list, node.keywords), ([], []))

    def test_methods_and_values_of_objects_are_called_unlike(self):
        trees = [ast.parse(text) for _, text in sources()]
        methods = own_methods(trees)
        kept = own_values(trees)
        self.assertEqual(methods & kept, set())
        pythons = {name for kind in PYTHON_VALUES for name in dir(kind)}
        self.assertEqual(kept & pythons - SHARED_VALUES, set())
        self.assertEqual({name for name in methods & pythons if not name.startswith("__")} - METHODS - {"add", "discard"},
                         set())

    def test_what_stands_at_a_files_top_is_plain(self):
        for path, text in sources():
            bound = []
            for node in ast.parse(text).body:
                if isinstance(node, (ast.FunctionDef, ast.ClassDef)):
                    bound.append(node.name)
                elif isinstance(node, ast.Assign):
                    bound.append(node.targets[0].id)
                    ast.literal_eval(node.value)
                elif isinstance(node, ast.ImportFrom):
                    bound.extend([alias.asname or alias.name for alias in node.names])
                else:
                    self.assertIsInstance(ast.literal_eval(node.value), str, path.name)
            self.assertEqual(len(set(bound)), len(bound), path.name)

    def test_names_and_methods(self):
        trees = {path.name: ast.parse(text) for path, text in sources()}
        own = own_methods(trees.values())
        for name, tree in trees.items():
            for node in ast.walk(tree):
                with self.subTest(path=name, line=getattr(node, "lineno", 0)):
                    if isinstance(node, ast.Name):
                        self.assertRegex(node.id, "^[A-Za-z][A-Za-z0-9_]*$")
                        self.assertTrue(node.id in NAMES or not hasattr(builtins, node.id), node.id)
                        self.assertFalse(isinstance(node.ctx, ast.Store) and hasattr(builtins, node.id), node.id)
                    if isinstance(node, ast.arg):
                        self.assertFalse(hasattr(builtins, node.arg), node.arg)
                    if isinstance(node, ast.Attribute):
                        self.assertNotIn(node.attr, UNUSED)
                    if isinstance(node, ast.Call) and isinstance(node.func, ast.Attribute):
                        self.assertIn(node.func.attr, METHODS | own)
