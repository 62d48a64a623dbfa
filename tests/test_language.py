"""The rules of the language that can be seen in the text of a file, by their numbers."""

import ast
import builtins
import re
import unittest
from pathlib import Path

PACKAGE = Path(__file__).resolve().parent.parent / "othersknow"
FILES = sorted(PACKAGE.rglob("*.py"))

BUILTINS = set("""len range enumerate zip min max sum abs sorted reversed int str bool bytes list tuple dict set frozenset
    isinstance ord repr any all divmod iter next super property classmethod staticmethod object float Exception ValueError
    TypeError KeyError IndexError LookupError ZeroDivisionError ArithmeticError OverflowError RuntimeError
    NotImplementedError AttributeError StopIteration NotImplemented""".split())
BARRED_WORDS = set("""type typing typing_extensions enum Enum IntEnum StrEnum Flag IntFlag Generic Protocol ABC ABCMeta
    namedtuple NamedTuple TypedDict TYPE_CHECKING abstractmethod""".split())
BARRED_NAMES = set("""register mro elements open input law version_info with_traceback add_note attrgetter breakpoint
    compile copyright credits delattr dir eval exec exit gc getattr globals hasattr help id importlib license locals
    methodcaller os quit setattr type vars sys""".split())
METHODS = set("""append clear copy count endswith extend find get index insert isalnum isalpha isdigit islower isspace
    isupper items join keys ljust lower lstrip partition pop remove replace reverse rfind rjust rpartition rsplit rstrip
    setdefault split splitlines startswith strip update upper values zfill bit_length""".split())
AT_ONCE = ("zip", "enumerate", "reversed", "range", "items", "keys", "values")
TAKERS = ("list", "tuple", "dict", "sorted", "sum", "any", "all", "enumerate", "zip", "min", "max")
WHOLE = ("any", "all", "min", "max", "sum", "sorted")


def tree(path):
    return ast.parse(path.read_text(encoding="utf-8"))


def nodes(path, *kinds):
    return [node for node in ast.walk(tree(path)) if isinstance(node, kinds)]


def names(path):
    """All names that a file binds or passes."""
    for node in nodes(path, ast.AST):
        for field in ("name", "arg", "attr", "asname"):
            if isinstance(getattr(node, field, None), str):
                yield getattr(node, field)
        if isinstance(node, ast.Name):
            yield node.id


def is_property(node):
    """Whether a function in a class is a property or a setter."""
    return any(isinstance(over, ast.Attribute) or over.id == "property" for over in node.decorator_list)


def functions():
    """All functions and methods of the package, by their names."""
    found = {}
    for path in FILES:
        for node in nodes(path, ast.FunctionDef):
            found.setdefault(node.name, []).append(node)
    return found


def is_quiet(node):
    """Whether L5 asks that a function changes nothing: an operator, a property, equality, a text or a length."""
    over = [ast.unparse(decorator) for decorator in node.decorator_list]
    return "property" in over or (node.name.startswith("__") and node.name not in ("__init__", "__call__"))


def reached(found):
    """The quiet functions and all functions that they call, where a method may be that of any class."""
    todo = [node for several in found.values() for node in several if is_quiet(node)]
    seen = []
    while todo:
        node = todo.pop()
        if node not in seen:
            seen.append(node)
            for call in ast.walk(node):
                if isinstance(call, ast.Call):
                    name = call.func.id if isinstance(call.func, ast.Name) else call.func.attr
                    todo.extend(found.get(name, []))
    return seen


def called(node):
    """The name of what a call calls."""
    return node.func.id if isinstance(node.func, ast.Name) else node.func.attr


class Language(unittest.TestCase):
    def test_l1_l14_files(self):
        self.assertGreater(len(FILES), 1)
        found = [path for path in PACKAGE.rglob("*") if path.is_file() and "__pycache__" not in path.parts]
        self.assertEqual(sorted(found), FILES)
        for path in FILES:
            with self.subTest(path.name):
                self.assertRegex(path.name, r"^[a-z0-9_]+\.py$")
                self.assertTrue((path.parent / "__init__.py").exists())
                self.assertRegex(path.read_bytes(), rb"\A[ -~\n]*\Z")

    def test_l2_l16_imports(self):
        for path in FILES:
            with self.subTest(path.name):
                self.assertEqual(nodes(path, ast.Import), [])
                for node in nodes(path, ast.ImportFrom):
                    self.assertEqual((node.level, node.module.split(".")[0]), (0, "othersknow"))
                    self.assertNotIn("*", [alias.name for alias in node.names])

    def test_l10_sizes(self):
        for path in FILES:
            with self.subTest(path.name):
                lines = path.read_text().split("\n")
                self.assertLess(len(lines), 401)
                self.assertLessEqual(max(len(line) for line in lines), 120)
                for node in nodes(path, ast.FunctionDef):
                    self.assertLessEqual(node.end_lineno - node.lineno + 1, 40, node.name)

    def test_l17_words(self):
        for path in FILES:
            with self.subTest(path.name):
                text = path.read_text()
                self.assertEqual(set(re.findall(r"\w+", text)) & BARRED_WORDS, set())
                self.assertNotRegex(text, "dataclass|overload|contextmanager")
                self.assertEqual(set(names(path)) & BARRED_NAMES, set())

    def test_l8_l12_names(self):
        allowed = {"__init__", "__eq__", "__repr__", "__str__", "__len__", "__call__", "__bool__", "__contains__"}
        for path in FILES:
            with self.subTest(path.name):
                self.assertEqual([name for name in names(path) if name.startswith("_") and name not in allowed], [])
                used = {node.id for node in nodes(path, ast.Name)}
                self.assertEqual(used & set(dir(builtins)) - BUILTINS, set())

    def test_l6_l7_statements(self):
        for path in FILES:
            with self.subTest(path.name):
                self.assertEqual(nodes(path, ast.Global, ast.AsyncFunctionDef, ast.Await, ast.Div), [])
                for node in nodes(path, ast.Constant):
                    self.assertNotIsInstance(node.value, (float, complex))
                    if isinstance(node.value, str):
                        self.assertNotIn("%", node.value)

    def test_l7_whole_lists(self):
        for path in FILES:
            with self.subTest(path.name):
                for node in nodes(path, ast.Call):
                    if isinstance(node.func, ast.Name) and node.func.id in WHOLE:
                        self.assertEqual([arg for arg in node.args if isinstance(arg, ast.GeneratorExp)], [])

    def test_l18_no_name_is_a_method_and_an_attribute(self):
        methods = set()
        attributes = set()
        for path in FILES:
            for held in nodes(path, ast.ClassDef):
                methods |= {node.name for node in held.body if isinstance(node, ast.FunctionDef) and not is_property(node)}
            attributes |= {node.attr for node in nodes(path, ast.Attribute) if isinstance(node.ctx, ast.Store)}
        self.assertEqual(methods & attributes, set())

    def test_l18_no_attribute_has_the_name_of_a_property(self):
        properties = {node.name for path in FILES for node in nodes(path, ast.FunctionDef) if node.decorator_list}
        setters = {over.value.id for path in FILES for node in nodes(path, ast.FunctionDef)
                   for over in node.decorator_list if isinstance(over, ast.Attribute)}
        attributes = {node.attr for path in FILES for node in nodes(path, ast.Attribute) if isinstance(node.ctx, ast.Store)}
        self.assertEqual(properties & attributes - setters, set())

    def test_l5_operators_and_properties_change_nothing(self):
        changing = {"append", "extend", "pop", "insert", "remove", "clear", "update", "setdefault", "reverse", "sort", "add",
                    "discard"}
        quiet = reached(functions())
        self.assertIn("holds", {node.name for node in quiet})
        for function in quiet:
            with self.subTest(function.name):
                for node in ast.walk(function):
                    self.assertNotIsInstance(getattr(node, "ctx", None), ast.Del)
                    if isinstance(node, (ast.Attribute, ast.Subscript)):
                        self.assertNotIsInstance(node.ctx, ast.Store)
                    if isinstance(node, ast.Call) and isinstance(node.func, ast.Attribute):
                        self.assertNotIn(node.func.attr, changing)
                    # An error that is made there sets attributes.
                    self.assertNotIsInstance(node, ast.Raise)

    def test_l3_l15_tables_hold_functions_of_their_own_file(self):
        for path in FILES:
            own = {node.name for node in tree(path).body if isinstance(node, ast.FunctionDef)}
            for node in tree(path).body:
                self.assertIsInstance(node, (ast.Expr, ast.ImportFrom, ast.FunctionDef, ast.ClassDef, ast.Assign))
                if isinstance(node, ast.Assign):
                    self.assertEqual([part for part in ast.walk(node) if isinstance(part, (ast.Call, ast.comprehension))], [])
                    named = {part.id for part in ast.walk(node.value) if isinstance(part, ast.Name)}
                    self.assertLessEqual(named, own)

    def test_l20_is_stands_beside_plain_values(self):
        for path in FILES:
            for node in nodes(path, ast.Compare):
                for sign, right in zip(node.ops, node.comparators):
                    if isinstance(sign, (ast.Is, ast.IsNot)):
                        self.assertIn(right.value, (None, True, False))

    def test_l22_keywords_of_builtins(self):
        for path in FILES:
            for node in nodes(path, ast.Call):
                if isinstance(node.func, ast.Name) and node.func.id in BUILTINS:
                    self.assertLessEqual({word.arg for word in node.keywords}, {"key", "reverse", "default", "start", "strict"})

    def test_l23_what_is_iterated_at_once(self):
        for path in FILES:
            calls = [node for node in nodes(path, ast.Call) if called(node) in AT_ONCE]
            spots = [node.iter for node in nodes(path, ast.For, ast.comprehension)]
            for node in nodes(path, ast.Call):
                if called(node) in TAKERS:
                    spots.extend(node.args[:1])
            told = [ast.dump(spot) for spot in spots]
            for call in calls:
                self.assertIn(ast.dump(call), told, ast.unparse(call))

    def test_l25_methods_are_those_listed_or_own_ones(self):
        own = set(functions())
        for path in FILES:
            for node in nodes(path, ast.Call):
                if isinstance(node.func, ast.Attribute):
                    self.assertIn(node.func.attr, METHODS | own)

    def test_l7_behind_a_star_stand_plain_values(self):
        for path in FILES:
            for node in nodes(path, ast.Call):
                for passed in node.args:
                    if isinstance(passed, ast.Starred):
                        self.assertIsInstance(passed.value, (ast.Name, ast.Attribute, ast.Constant, ast.List, ast.Tuple))

    def test_l16_no_two_files_import_from_each_other(self):
        imported = {path.stem: {node.module.split(".")[-1] for node in nodes(path, ast.ImportFrom)} for path in FILES}
        done = set()
        while len(done) < len(imported):
            free = {name for name, names in imported.items() if name not in done and names <= done}
            self.assertNotEqual(free, set())
            done |= free

    def test_l23_generators_are_iterated_on_the_spot(self):
        generators = {name for name, several in functions().items() for node in several
                      if any(isinstance(part, (ast.Yield, ast.YieldFrom)) for part in ast.walk(node))}
        self.assertIn("images", generators)
        for path in FILES:
            calls = [node for node in nodes(path, ast.Call) if isinstance(node.func, ast.Name) and node.func.id in generators]
            spots = [node.iter for node in nodes(path, ast.For)] + [node.value for node in nodes(path, ast.YieldFrom)]
            self.assertEqual(len(calls), len([spot for spot in spots if ast.dump(spot) in map(ast.dump, calls)]))


if __name__ == "__main__":
    unittest.main()
