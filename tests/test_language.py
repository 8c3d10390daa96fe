"""The package's files held against the rows of LANGUAGE.md that can be looked up in them."""

import ast
import builtins
import pathlib
import re
import unittest

PACKAGE = pathlib.Path(__file__).resolve().parent.parent / "placesrow"
FILES = sorted(PACKAGE.rglob("*.py"))

STATEMENTS = (ast.Assign, ast.AugAssign, ast.If, ast.While, ast.For, ast.Return, ast.Break, ast.Continue, ast.Pass,
              ast.Raise, ast.Try, ast.Expr, ast.FunctionDef, ast.ClassDef, ast.ImportFrom)
NOT_WRITTEN = (ast.SetComp, ast.DictComp, ast.GeneratorExp, ast.NamedExpr, ast.Starred, ast.Div, ast.MatMult,
               ast.Await, ast.Yield, ast.YieldFrom)
# What may be written under conditions that this package never needs to be held to, as it does without.
DONE_WITHOUT = (ast.Set, ast.Try, ast.Raise, ast.Lambda, ast.JoinedStr, ast.Pow, ast.AnnAssign)
WALKED = {"zip", "enumerate", "reversed", "range", "items", "keys", "values"}
OWN_NAMES = set("""len range enumerate zip min max sum abs sorted reversed int str bool list tuple dict set frozenset
    isinstance ord repr any all divmod Exception ValueError TypeError KeyError IndexError LookupError
    ZeroDivisionError ArithmeticError OverflowError RuntimeError NotImplementedError AttributeError
    StopIteration""".split())
OWN_METHODS = set("""append clear copy count endswith extend find get index insert isalnum isalpha isdigit islower
    isspace isupper items join keys ljust lower lstrip partition pop remove replace reverse rfind rjust rpartition
    rsplit rstrip setdefault split splitlines startswith strip update upper values zfill bit_length""".split())
NOT_AS_VALUES = set("""items keys values pop update append clear extend insert remove reverse setdefault sort args
    encode format""".split())
DUNDER_METHODS = {"__init__", "__eq__", "__repr__", "__str__", "__len__"}
NO_WORDS = re.compile(r"\b(type|typing|typing_extensions|enum|Enum|IntEnum|StrEnum|Flag|IntFlag|Generic|Protocol|ABC|"
                      r"ABCMeta|namedtuple|NamedTuple|TypedDict|TYPE_CHECKING|abstractmethod)\b|"
                      r"dataclass|overload|contextmanager")


NODES = [(path.name, node) for path in FILES for node in ast.walk(ast.parse(path.read_text()))]


def walk(kind):
    """Every such node of the package with its file."""
    return [(name, node) for name, node in NODES if isinstance(node, kind)]


def bound_names():
    found = [(name, node.id) for name, node in walk(ast.Name) if isinstance(node.ctx, ast.Store)]
    found += [(name, node.arg) for name, node in walk(ast.arg)]
    return found


def methods():
    return {item.name for name, node in walk(ast.ClassDef) for item in node.body if isinstance(item, ast.FunctionDef)}


def stored_values():
    return {node.attr for name, node in walk(ast.Attribute) if isinstance(node.ctx, ast.Store)}


class Files(unittest.TestCase):
    def test_only_python_files_lie_in_the_package(self):
        others = [path for path in PACKAGE.rglob("*")
                  if path.suffix != ".py" and "__pycache__" not in path.parts]
        self.assertEqual(others, [])
        for path in FILES:
            self.assertRegex(path.name, r"^([a-z][a-z0-9_]*|__init__)\.py$")
            self.assertNotIn(path.stem, dir(builtins))

    def test_sizes_and_signs(self):
        for path in FILES:
            text = path.read_text()
            self.assertRegex(text, r"\A[\n -~]*\Z", path.name)
            self.assertLessEqual(len(text.splitlines()), 399, path.name)
            self.assertLessEqual(max(len(line) for line in text.splitlines()), 120, path.name)
            self.assertIsNone(NO_WORDS.search(text), path.name)

    def test_the_top_of_a_module(self):
        for path in FILES:
            for node in ast.parse(path.read_text()).body:
                self.assertIsInstance(node, (ast.Expr, ast.ImportFrom, ast.FunctionDef, ast.ClassDef, ast.Assign))
                if isinstance(node, ast.Expr):
                    self.assertIsInstance(node.value, ast.Constant)

    def test_imports(self):
        for name, node in walk(ast.ImportFrom):
            self.assertEqual(node.level, 0, name)
            home = PACKAGE / (node.module.removeprefix("placesrow.") + ".py")
            top = ast.parse(home.read_text()).body
            defined = {item.name for item in top if isinstance(item, (ast.FunctionDef, ast.ClassDef))}
            defined |= {item.targets[0].id for item in top if isinstance(item, ast.Assign)}
            for drawn in node.names:
                self.assertIsNone(drawn.asname, name)
                self.assertIn(drawn.name, defined, name)

    def test_answers_is_written_in_its_own_file_alone(self):
        self.assertEqual([name for name, node in walk(ast.FunctionDef) if node.name == "answers"], ["queue.py"])


class Forms(unittest.TestCase):
    def test_statements(self):
        for name, node in walk(ast.stmt):
            self.assertIsInstance(node, STATEMENTS, name)
            if isinstance(node, ast.Assign):
                self.assertEqual(len(node.targets), 1, name)
                self.assertNotIsInstance(node.targets[0], (ast.Tuple, ast.List), name)
            if isinstance(node, (ast.For, ast.While)):
                self.assertEqual(node.orelse, [], name)
            if isinstance(node, ast.Expr):
                self.assertIsInstance(node.value, (ast.Call, ast.Constant), name)

    def test_expressions(self):
        self.assertEqual(walk(NOT_WRITTEN), [])
        for name, node in walk(ast.Constant):
            self.assertIn(type(node.value), (int, str, bool, type(None)), name)
        for name, node in walk(ast.ListComp):
            self.assertEqual(len(node.generators), 1, name)
            self.assertLessEqual(len(node.generators[0].ifs), 1, name)
        for name, node in walk(ast.Compare):
            for operator, right in zip(node.ops, node.comparators):
                if isinstance(operator, (ast.Is, ast.IsNot)):
                    self.assertIsInstance(right, ast.Constant, name)

    def test_forms_that_the_package_does_without(self):
        self.assertEqual(walk(DONE_WITHOUT), [])
        self.assertEqual([name for name, node in walk(ast.Name) if node.id in ("set", "frozenset", "chr")], [])
        self.assertEqual([name for name, node in walk(ast.Call) if node.keywords], [])
        for name, node in walk(ast.FunctionDef):
            self.assertEqual([argument.annotation for argument in node.args.args if argument.annotation], [], name)
            self.assertIsNone(node.returns, name)
            self.assertEqual(node.args.defaults, [], name)

    def test_what_is_walked_is_walked_at_once(self):
        at_once = [node.iter for name, node in walk((ast.For, ast.comprehension))]
        for name, node in walk(ast.Call):
            called = node.func.id if isinstance(node.func, ast.Name) else node.func.attr
            if called in WALKED:
                self.assertIn(node, at_once, (name, node.lineno))

    def test_no_two_files_draw_from_one_another(self):
        draws = {path.stem: set() for path in FILES}
        for name, node in walk(ast.ImportFrom):
            draws[name.removesuffix(".py")].add(node.module.removeprefix("placesrow."))
        while draws:
            free = [stem for stem in draws if not draws[stem] & set(draws)]
            self.assertNotEqual(free, [], draws)
            draws = {stem: draws[stem] for stem in draws if stem not in free}

    def test_functions(self):
        for name, node in walk(ast.FunctionDef):
            self.assertLessEqual(node.end_lineno - node.lineno + 1, 40, node.name)
            self.assertEqual(node.decorator_list, [])
            self.assertEqual((node.args.vararg, node.args.kwarg, node.args.kwonlyargs, node.args.posonlyargs),
                             (None, None, [], []))

    def test_classes(self):
        for name, node in walk(ast.ClassDef):
            self.assertEqual((node.decorator_list, node.keywords), ([], []))
            self.assertLessEqual(len(node.bases), 1)
            for item in node.body[1:]:
                self.assertIsInstance(item, ast.FunctionDef)


class Names(unittest.TestCase):
    def test_names_of_pythons_own(self):
        own = set(dir(builtins))
        for name, node in walk(ast.Name):
            if node.id in own:
                self.assertIn(node.id, OWN_NAMES, name)
        for name, bound in bound_names():
            self.assertNotIn(bound, own, name)

    def test_plain_names(self):
        defined = [(name, node.name) for name, node in walk((ast.FunctionDef, ast.ClassDef))]
        for name, bound in bound_names() + defined:
            if bound not in DUNDER_METHODS:
                self.assertRegex(bound, r"^[A-Za-z][A-Za-z0-9_]*$", name)

    def test_locals_are_not_called_like_imports_or_classes(self):
        for path in FILES:
            taken = {drawn.name for name, node in walk(ast.ImportFrom) if name == path.name for drawn in node.names}
            taken |= {node.name for name, node in walk(ast.ClassDef) if name == path.name}
            self.assertEqual(taken & {bound for name, bound in bound_names() if name == path.name}, set(), path.name)

    def test_methods_and_values(self):
        free_of = (str, int, list, dict, set, bytes)
        taken = {name for kind in free_of for name in dir(kind)} - DUNDER_METHODS
        self.assertEqual(methods() & stored_values(), set())
        self.assertEqual((methods() | stored_values()) & taken, set())
        self.assertEqual(stored_values() & NOT_AS_VALUES, set())
        for name, node in walk(ast.Attribute):
            self.assertIn(node.attr, methods() | stored_values() | OWN_METHODS, name)

    def test_what_stands_at_a_files_top_is_bound_once(self):
        for path in FILES:
            top = ast.parse(path.read_text()).body
            bound = [item.name for item in top if isinstance(item, (ast.FunctionDef, ast.ClassDef))]
            bound += [item.targets[0].id for item in top if isinstance(item, ast.Assign)]
            bound += [drawn.name for item in top if isinstance(item, ast.ImportFrom) for drawn in item.names]
            self.assertEqual(len(bound), len(set(bound)), path.name)


if __name__ == "__main__":
    unittest.main()
