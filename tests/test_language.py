"""The rules of the language subset that a reading of the package's files can see."""

import ast
import builtins
import functools
import pathlib
import re
import unittest

PACKAGE = pathlib.Path(__file__).resolve().parent.parent / "tearboard"
FILES = sorted(PACKAGE.glob("*.py"))

# L8
ALLOWED_BUILTINS = set(
    "len range enumerate zip min max sum abs sorted reversed int str bool bytes list tuple dict set frozenset "
    "isinstance ord repr any all divmod iter next Exception ValueError TypeError KeyError IndexError LookupError "
    "ZeroDivisionError ArithmeticError OverflowError RuntimeError NotImplementedError AttributeError "
    "StopIteration NotImplemented property staticmethod classmethod super".split()
)
# L25
BUILTIN_METHODS = set(
    "append clear copy count endswith extend find get index insert isalnum isalpha isdigit islower isspace isupper "
    "items join keys ljust lower lstrip partition pop remove replace reverse rfind rjust rpartition rsplit rstrip "
    "setdefault split splitlines startswith strip update upper values zfill bit_length title capitalize swapcase "
    "casefold center expandtabs removeprefix removesuffix rindex isascii isdecimal isnumeric istitle isidentifier "
    "isprintable translate add discard".split()
)
# L17
BARRED_WORDS = (
    "type typing typing_extensions enum Enum IntEnum StrEnum Flag IntFlag Generic Protocol ABC ABCMeta namedtuple "
    "NamedTuple TypedDict TYPE_CHECKING abstractmethod".split()
)
BARRED_INSIDE = ("dataclass", "overload", "contextmanager")
BARRED_NAMES = set(
    "register mro elements open input law version_info with_traceback add_note attrgetter breakpoint builtins "
    "compile copyright credits delattr dir eval exec exit gc getattr globals hasattr help id importlib license "
    "locals methodcaller os quit setattr vars sys format format_map args".split()
)
# L5
DUNDER_METHODS = {"__init__", "__eq__", "__repr__", "__str__", "__len__"}
BARRED_NODES = (
    ast.Global, ast.AsyncFunctionDef, ast.AsyncFor, ast.AsyncWith, ast.Await, ast.Import, ast.Div, ast.MatMult,
)
GREEDY = {"any", "all", "min", "max", "sum", "sorted"}
# L23
AT_ONCE = {"zip", "enumerate", "reversed", "range", "items", "keys", "values"}
TAKERS = {"list", "tuple", "dict", "sorted", "sum", "any", "all", "enumerate", "zip", "min", "max"}
MODIFYING = {
    "append", "clear", "extend", "insert", "pop", "remove", "reverse", "setdefault", "update", "add", "discard", "sort",
}
# L22: keywords of builtins
KEYWORDS = {"sorted": {"key", "reverse"}, "min": {"key", "default"}, "max": {"key", "default"}, "sum": {"start"},
            "enumerate": {"start"}, "zip": {"strict"}}


@functools.lru_cache
def trees():
    return [(path, ast.parse(path.read_text(encoding="ascii"))) for path in FILES]


def nodes(*kinds):
    return [(path, node) for path, tree in trees() for node in ast.walk(tree) if isinstance(node, kinds)]


def bound_names(node):
    """The names that a piece of code binds by itself."""
    if isinstance(node, (ast.FunctionDef, ast.ClassDef)):
        return [node.name]
    if isinstance(node, ast.arg):
        return [node.arg]
    if isinstance(node, ast.Name) and isinstance(node.ctx, ast.Store):
        return [node.id]
    if isinstance(node, ast.alias):
        return [node.asname or node.name]
    return []


@functools.lru_cache
def methods():
    return {
        item.name for path, node in nodes(ast.ClassDef) for item in node.body if isinstance(item, ast.FunctionDef)
    }


@functools.lru_cache
def stored_attributes():
    return {node.attr for path, node in nodes(ast.Attribute) if isinstance(node.ctx, ast.Store)}


def called(node):
    """The name of what is called; None where it is no call, or not by a name."""
    if not isinstance(node, ast.Call):
        return None
    return getattr(node.func, "id", None) or getattr(node.func, "attr", None)


def targets(comprehension):
    """The names that a comprehension assigns."""
    return {name for item in comprehension.generators for node in ast.walk(item.target) for name in bound_names(node)}


def locals_of(function):
    """The names that a function assigns by itself, not in a comprehension."""
    bound, waiting = set(), [*function.args.args, *function.args.kwonlyargs, *function.body]
    while waiting:
        node = waiting.pop()
        bound |= set(bound_names(node))
        if not isinstance(node, (ast.ListComp, ast.DictComp, ast.SetComp, ast.GeneratorExp)):
            waiting += list(ast.iter_child_nodes(node))
    return bound


class Files(unittest.TestCase):
    def test_the_package_holds_plain_files_only(self):
        names = [path.name for path in PACKAGE.iterdir() if path.name != "__pycache__"]
        self.assertIn("__init__.py", names)
        for name in names:
            self.assertRegex(name, r"^[a-z0-9_]+\.py$")

    def test_characters_and_sizes(self):
        for path in FILES:
            text = path.read_text(encoding="ascii")
            self.assertRegex(text, r"\A[ -~\n]*\Z", path)
            lines = text.split("\n")
            self.assertLessEqual(len(lines), 399, path)
            self.assertLessEqual(max(len(line) for line in lines), 120, path)

    def test_functions_are_short(self):
        for path, node in nodes(ast.FunctionDef):
            self.assertLessEqual(node.end_lineno - node.lineno + 1, 40, (path, node.name))

    def test_barred_words(self):
        for path in FILES:
            text = path.read_text(encoding="ascii")
            for word in BARRED_WORDS:
                self.assertNotRegex(text, r"\b" + re.escape(word) + r"\b", path)
            for word in BARRED_INSIDE:
                self.assertNotIn(word, text, path)

    def test_strings(self):
        for path, node in nodes(ast.Constant):
            self.assertNotIsInstance(node.value, float, path)
            if isinstance(node.value, str):
                self.assertNotIn("%", node.value, path)


class Modules(unittest.TestCase):
    def test_imports_are_of_the_package_and_of_the_file_that_defines(self):
        defined = {}
        for path, tree in trees():
            for node in tree.body:
                targets = node.targets if isinstance(node, ast.Assign) else [node]
                for target in targets:
                    for name in bound_names(target):
                        defined.setdefault("tearboard." + path.stem, set()).add(name)
        for path, node in nodes(ast.ImportFrom):
            self.assertEqual(node.level, 0, path)
            for name in node.names:
                self.assertIn(name.name, defined.get(node.module, set()), path)

    def test_no_two_files_import_from_each_other(self):
        wants = {"tearboard." + path.stem: set() for path in FILES}
        for path, node in nodes(ast.ImportFrom):
            wants["tearboard." + path.stem].add(node.module)
        while wants:
            free = [name for name in wants if not wants[name] & set(wants)]
            self.assertTrue(free, wants)
            wants = {name: wants[name] for name in wants if name not in free}

    def test_module_level(self):
        for path, tree in trees():
            bound = []
            for at, node in enumerate(tree.body):
                if at == 0 and isinstance(node, ast.Expr):
                    continue
                self.assertIsInstance(node, (ast.ImportFrom, ast.FunctionDef, ast.ClassDef, ast.Assign), path)
                held = node.names if isinstance(node, ast.ImportFrom) else [node]
                held = node.targets if isinstance(node, ast.Assign) else held
                bound += [name for item in held for name in bound_names(item)]
            self.assertEqual(len(bound), len(set(bound)), path)


class Code(unittest.TestCase):
    def test_barred_statements_and_signs(self):
        self.assertEqual(nodes(*BARRED_NODES), [])

    def test_names(self):
        for path, tree in trees():
            for node in ast.walk(tree):
                for name in bound_names(node):
                    plain = name in DUNDER_METHODS or re.fullmatch(r"[A-Za-z][A-Za-z0-9_]*", name)
                    self.assertTrue(plain, (path, name))
                    self.assertNotIn(name, BARRED_NAMES, path)
                    self.assertFalse(name not in DUNDER_METHODS and hasattr(builtins, name), (path, name))

    def test_only_allowed_builtins_are_read(self):
        for path, node in nodes(ast.Name):
            if hasattr(builtins, node.id):
                self.assertIn(node.id, ALLOWED_BUILTINS, (path, node.lineno))

    def test_locals_do_not_bear_names_of_classes_or_imports(self):
        for path, tree in trees():
            taken = {name for node in tree.body if isinstance(node, ast.ClassDef) for name in bound_names(node)}
            for node in tree.body:
                if isinstance(node, ast.ImportFrom):
                    taken |= {name for item in node.names for name in bound_names(item)}
            for node in ast.walk(tree):
                if isinstance(node, (ast.arg, ast.Name)):
                    self.assertFalse(set(bound_names(node)) & taken, (path, node.lineno))

    def test_methods_are_own_or_allowed(self):
        for path, node in nodes(ast.Call):
            if isinstance(node.func, ast.Attribute):
                self.assertIn(node.func.attr, methods() | BUILTIN_METHODS, (path, node.lineno))

    def test_no_name_is_a_method_and_an_attribute(self):
        self.assertEqual(methods() & stored_attributes(), set())

    def test_attributes_are_assigned_somewhere(self):
        for path, node in nodes(ast.Attribute):
            self.assertIn(node.attr, methods() | stored_attributes() | BUILTIN_METHODS, (path, node.lineno))

    def test_double_underscore_methods(self):
        for name in methods():
            if name.startswith("_"):
                self.assertIn(name, DUNDER_METHODS)

    def test_is_only_with_none_true_false(self):
        for path, node in nodes(ast.Compare):
            for sign, right in zip(node.ops, node.comparators):
                if isinstance(sign, (ast.Is, ast.IsNot)):
                    self.assertIsInstance(right, ast.Constant, (path, node.lineno))

    def test_greedy_builtins_take_lists(self):
        for path, node in nodes(ast.Call):
            if isinstance(node.func, ast.Name) and node.func.id in GREEDY:
                for given in node.args:
                    self.assertNotIsInstance(given, ast.GeneratorExp, (path, node.lineno))

    def test_raise_makes_its_error_on_the_spot(self):
        for path, node in nodes(ast.Raise):
            self.assertIsInstance(node.exc, (ast.Call, type(None)), (path, node.lineno))

    def test_iterated_at_once(self):
        for path, tree in trees():
            allowed = set()
            for node in ast.walk(tree):
                if isinstance(node, (ast.For, ast.comprehension)):
                    allowed.add(node.iter)
                if isinstance(node, ast.Call) and called(node) in TAKERS:
                    allowed |= set(node.args)
            for node in ast.walk(tree):
                if isinstance(node, ast.Call) and called(node) in AT_ONCE:
                    self.assertIn(node, allowed, (path, node.lineno))

    def test_loops_leave_what_they_iterate_over(self):
        for path, node in nodes(ast.For):
            given = node.iter.args if isinstance(node.iter, ast.Call) else [node.iter]
            held = {ast.dump(item) for item in given if isinstance(item, (ast.Name, ast.Attribute))}
            for item in [inner for row in node.body for inner in ast.walk(row)]:
                changed = None
                if isinstance(item, ast.Call) and isinstance(item.func, ast.Attribute) and item.func.attr in MODIFYING:
                    changed = item.func.value
                if isinstance(item, ast.Subscript) and not isinstance(item.ctx, ast.Load):
                    changed = item.value
                self.assertFalse(changed is not None and ast.dump(changed) in held, (path, node.lineno))

    def test_keywords_of_builtins(self):
        for path, node in nodes(ast.Call):
            if isinstance(node.func, ast.Name) and hasattr(builtins, node.func.id):
                named = {keyword.arg for keyword in node.keywords}
                self.assertLessEqual(named, KEYWORDS.get(node.func.id, set()), (path, node.lineno))

    def test_no_sort_and_no_stored_sets(self):
        for path, node in nodes(ast.Call):
            self.assertNotEqual(called(node), "sort", (path, node.lineno))
        for path, node in nodes(ast.Set, ast.SetComp, ast.Match, ast.With, ast.Yield, ast.NamedExpr):
            self.fail(f"{path}:{node.lineno}: not needed so far")

    def test_only_own_errors_are_caught_around_one_call(self):
        own = {name for node in dict(trees())[PACKAGE / "errors.py"].body for name in bound_names(node)}
        for path, node in nodes(ast.Try):
            self.assertFalse(node.finalbody or node.orelse, (path, node.lineno))
            self.assertEqual(len(node.body), 1, (path, node.lineno))
            self.assertIsInstance(node.body[0].value, ast.Call, (path, node.lineno))
            for handler in node.handlers:
                caught = handler.type.elts if isinstance(handler.type, ast.Tuple) else [handler.type]
                self.assertLessEqual({item.id for item in caught}, own, (path, node.lineno))

    def test_powers_have_literal_exponents(self):
        for path, node in nodes(ast.BinOp):
            if isinstance(node.op, ast.Pow):
                self.assertIsInstance(node.right, ast.Constant, (path, node.lineno))
                self.assertIn(node.right.value, range(65), (path, node.lineno))

    def test_no_two_lambdas_stand_on_one_line(self):
        lines = [(path, node.lineno) for path, node in nodes(ast.Lambda)]
        self.assertEqual(len(lines), len(set(lines)))

    def test_tables_of_functions_are_called_by_a_name(self):
        for path, node in nodes(ast.Call):
            self.assertIsInstance(node.func, (ast.Name, ast.Attribute), (path, node.lineno))

    def test_attributes_are_assigned_through_local_names(self):
        for path, node in nodes(ast.Attribute):
            if isinstance(node.ctx, ast.Store):
                self.assertIsInstance(node.value, ast.Name, (path, node.lineno))

    def test_no_attribute_bears_a_name_of_builtin_values(self):
        held = {name for kind in (str, int, list, dict, set, bytes, tuple) for name in dir(kind)}
        self.assertEqual(stored_attributes() & held, set())
        self.assertLessEqual((methods() & held) - DUNDER_METHODS, BUILTIN_METHODS)

    def test_what_double_underscore_methods_return(self):
        for path, node in nodes(ast.FunctionDef):
            told = [item.value for item in ast.walk(node) if isinstance(item, ast.Return)]
            if node.name == "__init__":
                self.assertEqual(told, [])
            if node.name in ("__len__", "__str__", "__repr__"):
                self.assertIsInstance(node.body[-1], ast.Return)
                good = {"len"} if node.name == "__len__" else {"str", "repr", "join"}
                for item in told:
                    plain = isinstance(item, (ast.Constant, ast.JoinedStr))
                    self.assertTrue(plain or called(item) in good, (path, node.lineno))
            if node.name in ("__len__", "__str__", "__repr__", "__eq__"):
                for item in ast.walk(node):
                    self.assertNotIsInstance(item, (ast.Assign, ast.AugAssign, ast.Delete), (path, node.lineno))

    def test_stars_in_calls_stand_before_names(self):
        for path, node in nodes(ast.Call):
            for given in node.args:
                if isinstance(given, ast.Starred):
                    self.assertIsInstance(given.value, ast.Name, (path, node.lineno))

    def test_comprehensions_in_comprehensions_have_names_of_their_own(self):
        kinds = (ast.ListComp, ast.DictComp, ast.SetComp, ast.GeneratorExp)
        for path, function in nodes(ast.FunctionDef):
            for outer in [node for node in ast.walk(function) if isinstance(node, kinds)]:
                for inner in [node for node in ast.walk(outer) if isinstance(node, kinds) and node != outer]:
                    self.assertFalse(targets(inner) & (targets(outer) | locals_of(function)), (path, inner.lineno))

    def test_defaults_are_plain(self):
        for path, node in nodes(ast.arguments):
            for worth in node.defaults + [item for item in node.kw_defaults if item is not None]:
                self.assertIsInstance(worth, (ast.Constant, ast.Name, ast.Tuple), (path, worth.lineno))

    def test_every_function_and_class_is_explained(self):
        for path, node in nodes(ast.FunctionDef, ast.ClassDef):
            if not node.name.startswith("_"):
                self.assertTrue(ast.get_docstring(node), (path, node.name))


if __name__ == "__main__":
    unittest.main()
