"""The rules of the language subset that a reading of the package's files can see."""

import ast
import builtins
import pathlib
import re
import unittest

PACKAGE = pathlib.Path(__file__).resolve().parent.parent / "tearboard"
FILES = sorted(PACKAGE.glob("*.py"))

# L8
ALLOWED_BUILTINS = set(
    "len range enumerate zip min max sum abs sorted reversed int str bool bytes list tuple dict set frozenset "
    "isinstance ord repr any all divmod iter next Exception ValueError TypeError KeyError IndexError LookupError "
    "ZeroDivisionError ArithmeticError OverflowError RuntimeError NotImplementedError AttributeError "
    "StopIteration NotImplemented property staticmethod classmethod super".split()
)
# L25
BUILTIN_METHODS = set(
    "append clear copy count endswith extend find get index insert isalnum isalpha isdigit islower isspace isupper "
    "items join keys ljust lower lstrip partition pop remove replace reverse rfind rjust rpartition rsplit rstrip "
    "setdefault split splitlines startswith strip update upper values zfill bit_length title capitalize swapcase "
    "casefold center expandtabs removeprefix removesuffix rindex isascii isdecimal isnumeric istitle isidentifier "
    "isprintable translate add discard".split()
)
# L17
BARRED_WORDS = (
    "type typing typing_extensions enum Enum IntEnum StrEnum Flag IntFlag Generic Protocol ABC ABCMeta namedtuple "
    "NamedTuple TypedDict TYPE_CHECKING abstractmethod".split()
)
BARRED_INSIDE = ("dataclass", "overload", "contextmanager")
BARRED_NAMES = set(
    "register mro elements open input law version_info with_traceback add_note attrgetter breakpoint builtins "
    "compile copyright credits delattr dir eval exec exit gc getattr globals hasattr help id importlib license "
    "locals methodcaller os quit setattr vars sys format format_map args".split()
)
# L5
DUNDER_METHODS = {"__init__", "__eq__", "__repr__", "__str__", "__len__"}
BARRED_NODES = (
    ast.Global, ast.AsyncFunctionDef, ast.AsyncFor, ast.AsyncWith, ast.Await, ast.Import, ast.Div, ast.MatMult,
)
GREEDY = {"any", "all", "min", "max", "sum", "sorted"}


def trees():
    return [(path, ast.parse(path.read_text(encoding="ascii"))) for path in FILES]


def nodes(*kinds):
    return [(path, node) for path, tree in trees() for node in ast.walk(tree) if isinstance(node, kinds)]


def bound_names(node):
    """The names that a piece of code binds by itself."""
    if isinstance(node, (ast.FunctionDef, ast.ClassDef)):
        return [node.name]
    if isinstance(node, ast.arg):
        return [node.arg]
    if isinstance(node, ast.Name) and isinstance(node.ctx, ast.Store):
        return [node.id]
    if isinstance(node, ast.alias):
        return [node.asname or node.name]
    return []


def methods():
    return {
        item.name for path, node in nodes(ast.ClassDef) for item in node.body if isinstance(item, ast.FunctionDef)
    }


def stored_attributes():
    return {node.attr for path, node in nodes(ast.Attribute) if isinstance(node.ctx, ast.Store)}


class Files(unittest.TestCase):
    def test_the_package_holds_plain_files_only(self):
        names = [path.name for path in PACKAGE.iterdir() if path.name != "__pycache__"]
        self.assertIn("__init__.py", names)
        for name in names:
            self.assertRegex(name, r"^[a-z0-9_]+\.py$")

    def test_characters_and_sizes(self):
        for path in FILES:
            text = path.read_text(encoding="ascii")
            self.assertRegex(text, r"\A[ -~\n]*\Z", path)
            lines = text.split("\n")
            self.assertLessEqual(len(lines), 399, path)
            self.assertLessEqual(max(len(line) for line in lines), 120, path)

    def test_functions_are_short(self):
        for path, node in nodes(ast.FunctionDef):
            self.assertLessEqual(node.end_lineno - node.lineno + 1, 40, (path, node.name))

    def test_barred_words(self):
        for path in FILES:
            text = path.read_text(encoding="ascii")
            for word in BARRED_WORDS:
                self.assertNotRegex(text, r"\b" + re.escape(word) + r"\b", path)
            for word in BARRED_INSIDE:
                self.assertNotIn(word, text, path)

    def test_strings(self):
        for path, node in nodes(ast.Constant):
            self.assertNotIsInstance(node.value, float, path)
            if isinstance(node.value, str):
                self.assertNotIn("%", node.value, path)


class Modules(unittest.TestCase):
    def test_imports_are_of_the_package_and_of_the_file_that_defines(self):
        defined = {}
        for path, tree in trees():
            for node in tree.body:
                targets = node.targets if isinstance(node, ast.Assign) else [node]
                for target in targets:
                    for name in bound_names(target):
                        defined.setdefault("tearboard." + path.stem, set()).add(name)
        for path, node in nodes(ast.ImportFrom):
            self.assertEqual(node.level, 0, path)
            for name in node.names:
                self.assertIn(name.name, defined.get(node.module, set()), path)

    def test_no_two_files_import_from_each_other(self):
        wants = {"tearboard." + path.stem: set() for path in FILES}
        for path, node in nodes(ast.ImportFrom):
            wants["tearboard." + path.stem].add(node.module)
        while wants:
            free = [name for name in wants if not wants[name] & set(wants)]
            self.assertTrue(free, wants)
            wants = {name: wants[name] for name in wants if name not in free}

    def test_module_level(self):
        for path, tree in trees():
            bound = []
            for at, node in enumerate(tree.body):
                if at == 0 and isinstance(node, ast.Expr):
                    continue
                self.assertIsInstance(node, (ast.ImportFrom, ast.FunctionDef, ast.ClassDef, ast.Assign), path)
                held = node.names if isinstance(node, ast.ImportFrom) else [node]
                held = node.targets if isinstance(node, ast.Assign) else held
                bound += [name for item in held for name in bound_names(item)]
            self.assertEqual(len(bound), len(set(bound)), path)


class Code(unittest.TestCase):
    def test_barred_statements_and_signs(self):
        self.assertEqual(nodes(*BARRED_NODES), [])

    def test_names(self):
        for path, tree in trees():
            for node in ast.walk(tree):
                for name in bound_names(node):
                    plain = name in DUNDER_METHODS or re.fullmatch(r"[A-Za-z][A-Za-z0-9_]*", name)
                    self.assertTrue(plain, (path, name))
                    self.assertNotIn(name, BARRED_NAMES, path)
                    self.assertFalse(name not in DUNDER_METHODS and hasattr(builtins, name), (path, name))

    def test_only_allowed_builtins_are_read(self):
        for path, node in nodes(ast.Name):
            if hasattr(builtins, node.id):
                self.assertIn(node.id, ALLOWED_BUILTINS, (path, node.lineno))

    def test_locals_do_not_bear_names_of_classes_or_imports(self):
        for path, tree in trees():
            taken = {name for node in tree.body if isinstance(node, ast.ClassDef) for name in bound_names(node)}
            for node in tree.body:
                if isinstance(node, ast.ImportFrom):
                    taken |= {name for item in node.names for name in bound_names(item)}
            for node in ast.walk(tree):
                if isinstance(node, (ast.arg, ast.Name)):
                    self.assertFalse(set(bound_names(node)) & taken, (path, node.lineno))

    def test_methods_are_own_or_allowed(self):
        for path, node in nodes(ast.Call):
            if isinstance(node.func, ast.Attribute):
                self.assertIn(node.func.attr, methods() | BUILTIN_METHODS, (path, node.lineno))

    def test_no_name_is_a_method_and_an_attribute(self):
        self.assertEqual(methods() & stored_attributes(), set())

    def test_attributes_are_assigned_somewhere(self):
        for path, node in nodes(ast.Attribute):
            self.assertIn(node.attr, methods() | stored_attributes() | BUILTIN_METHODS, (path, node.lineno))

    def test_double_underscore_methods(self):
        for name in methods():
            if name.startswith("_"):
                self.assertIn(name, DUNDER_METHODS)

    def test_is_only_with_none_true_false(self):
        for path, node in nodes(ast.Compare):
            for sign, right in zip(node.ops, node.comparators):
                if isinstance(sign, (ast.Is, ast.IsNot)):
                    self.assertIsInstance(right, ast.Constant, (path, node.lineno))

    def test_greedy_builtins_take_lists(self):
        for path, node in nodes(ast.Call):
            if isinstance(node.func, ast.Name) and node.func.id in GREEDY:
                for given in node.args:
                    self.assertNotIsInstance(given, ast.GeneratorExp, (path, node.lineno))

    def test_raise_makes_its_error_on_the_spot(self):
        for path, node in nodes(ast.Raise):
            self.assertIsInstance(node.exc, (ast.Call, type(None)), (path, node.lineno))

    def test_every_function_and_class_is_explained(self):
        for path, node in nodes(ast.FunctionDef, ast.ClassDef):
            if not node.name.startswith("_"):
                self.assertTrue(ast.get_docstring(node), (path, node.name))


if __name__ == "__main__":
    unittest.main()
