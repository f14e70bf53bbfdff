"""The package keeps to the small part of Python that shared/LANGUAGE.md tells (L1 to L28).

What can be seen without running the program is looked at here; not every row of every rule.
"""

import ast
import builtins
import pathlib
import re
import unittest

ROOT = pathlib.Path(__file__).resolve().parent.parent
PACKAGE = "ohmyard"

NODES = """Module FunctionDef ClassDef arguments arg Return Assign AugAssign For While If Raise Try ExceptHandler
ImportFrom alias Expr Pass Break Continue BoolOp And Or BinOp Add Sub Mult FloorDiv Mod Pow LShift RShift BitOr BitXor
BitAnd UnaryOp Not USub Invert Lambda IfExp Dict Set ListComp comprehension Compare Eq NotEq Lt LtE Gt GtE Is IsNot In
NotIn Call JoinedStr FormattedValue Constant Attribute Subscript Name List Tuple Slice Load Store keyword""".split()

NAMES = """len range enumerate zip min max sum abs sorted reversed int str bool list tuple dict set frozenset isinstance
ord repr any all divmod Exception ValueError TypeError KeyError IndexError LookupError ZeroDivisionError ArithmeticError
OverflowError RuntimeError NotImplementedError AttributeError StopIteration True False None""".split()

NO_NAMES = """register mro elements open input version_info with_traceback add_note attrgetter breakpoint builtins
compile copyright credits delattr dir eval exec exit gc getattr globals hasattr help id importlib license locals
methodcaller os quit setattr super type vars sys format format_map""".split()

NO_WORDS = """type typing typing_extensions enum Enum IntEnum StrEnum Flag IntFlag Generic Protocol ABC ABCMeta
namedtuple NamedTuple TypedDict TYPE_CHECKING abstractmethod""".split()
NO_PARTS_OF_WORDS = ["dataclass", "overload", "contextmanager"]

METHODS = """append clear copy count endswith extend find get index insert isalnum isalpha isdigit islower isspace
isupper items join keys ljust lower lstrip partition pop remove replace reverse rfind rjust rpartition rsplit rstrip
setdefault split splitlines startswith strip update upper values zfill bit_length""".split()

WALKED = ["zip", "enumerate", "reversed", "range", "items", "keys", "values"]
WALKING = ["list", "tuple", "dict", "sorted", "sum", "any", "all", "enumerate", "zip", "min", "max"]

CHANGING = ["append", "clear", "extend", "insert", "pop", "remove", "reverse", "setdefault", "update", "add"]

TOP = (ast.ImportFrom, ast.Assign, ast.FunctionDef, ast.ClassDef)
UNDERSCORED = ["__init__", "__eq__", "__repr__", "__str__", "__len__"]
NO_VALUES = """items keys values pop update append clear extend insert remove reverse setdefault sort args encode
format""".split()


def files():
    return sorted((ROOT / PACKAGE).rglob("*.py"))


def source(path):
    return path.read_text(encoding="utf-8")


def tree(path):
    return ast.parse(source(path))


def found(path, kinds):
    return found_in(tree(path), kinds)


def found_in(whole, kinds):
    return [node for node in ast.walk(whole) if isinstance(node, kinds)]


def bound_names(path):
    names = [node.name for node in found(path, (ast.FunctionDef, ast.ClassDef))]
    names += [node.arg for node in found(path, ast.arg)]
    names += [node.id for node in found(path, ast.Name) if isinstance(node.ctx, ast.Store)]
    names += [node.name for node in found(path, ast.ExceptHandler) if node.name is not None]
    return names


def top_names(path):
    names = []
    for node in tree(path).body:
        if isinstance(node, (ast.FunctionDef, ast.ClassDef)):
            names.append(node.name)
        elif isinstance(node, ast.Assign):
            names += [target.id for target in node.targets]
        elif isinstance(node, ast.ImportFrom):
            names += [alias.asname or alias.name for alias in node.names]
    return names


def methods_and_values():
    methods = []
    values = []
    for path in files():
        for made in found(path, ast.ClassDef):
            methods += [node.name for node in made.body if isinstance(node, ast.FunctionDef)]
        for node in found(path, ast.Attribute):
            if isinstance(node.ctx, ast.Store):
                values.append(node.attr)
    return (set(methods), set(values))


def called(node, names):
    """Whether a node calls one of these by its name, or a method of this name."""
    if not isinstance(node, ast.Call):
        return False
    return getattr(node.func, "id", None) in names or getattr(node.func, "attr", None) in names


def walked_at_once(whole):
    """The things that a loop or a call of Python's own walks on the spot."""
    walked = [node.iter for node in found_in(whole, (ast.For, ast.comprehension))]
    for node in found_in(whole, ast.Call):
        if called(node, WALKING):
            walked += node.args if called(node, ["zip", "enumerate"]) else node.args[:1]
    return walked


def is_docstring(node):
    return isinstance(node, ast.Expr) and isinstance(node.value, ast.Constant) and isinstance(node.value.value, str)


def at(path, node):
    line = getattr(node, "lineno", 0)
    return f"{path.name}, line {line}"


class Form(unittest.TestCase):
    def test_there_are_files(self):
        self.assertIn("__init__.py", [path.name for path in files()])

    def test_nothing_else_lies_in_the_package(self):
        for path in (ROOT / PACKAGE).rglob("*"):
            if "__pycache__" not in path.parts and not path.is_dir():
                self.assertRegex(path.name, r"^[a-z][a-z0-9_]*\.py$|^__(init|main)__\.py$")

    def test_signs_and_size(self):
        for path in files():
            text = source(path)
            self.assertRegex(text, r"^[ -~\n]*$")
            rows = text.split("\n")
            self.assertLessEqual(len(rows), 401)
            self.assertLessEqual(max(len(row) for row in rows), 120)
            for node in found(path, ast.FunctionDef):
                self.assertLessEqual(node.end_lineno - node.lineno + 1, 40, at(path, node))

    def test_words_that_stand_nowhere(self):
        for path in files():
            words = re.findall(r"\w+", source(path))
            self.assertEqual([word for word in words if word in NO_WORDS], [])
            for part in NO_PARTS_OF_WORDS:
                self.assertEqual([word for word in words if part in word], [])

    def test_statements_and_expressions(self):
        for path in files():
            for node in ast.walk(tree(path)):
                self.assertIn(type(node).__name__, NODES, at(path, node))

    def test_top_of_a_module(self):
        for path in files():
            body = tree(path).body
            for place, node in enumerate(body):
                if not (place == 0 and is_docstring(node)):
                    self.assertIsInstance(node, TOP, at(path, node))
            self.assertEqual(len(top_names(path)), len(set(top_names(path))))

    def test_statements_alone(self):
        for path in files():
            for node in found(path, ast.Expr):
                self.assertTrue(isinstance(node.value, ast.Call) or node.lineno == 1, at(path, node))
            for node in found(path, ast.Assign):
                self.assertEqual(len(node.targets), 1, at(path, node))
            for node in found(path, (ast.For, ast.While)):
                self.assertEqual(node.orelse, [], at(path, node))
            for node in found(path, ast.Try):
                self.assertEqual(node.finalbody, [], at(path, node))

    def test_functions_and_classes(self):
        for path in files():
            for node in found(path, (ast.FunctionDef, ast.ClassDef)):
                self.assertEqual(node.decorator_list, [], at(path, node))
            for node in found(path, ast.arguments):
                self.assertEqual((node.vararg, node.kwarg, node.kwonlyargs, node.posonlyargs), (None, None, [], []))
            for node in found(path, ast.ClassDef):
                self.assertLessEqual(len(node.bases), 1, at(path, node))
                for inner in node.body:
                    self.assertIsInstance(inner, (ast.FunctionDef, ast.Pass), at(path, node))

    def test_values(self):
        for path in files():
            for node in found(path, ast.Constant):
                self.assertIn(type(node.value), (int, str, bool, type(None)), at(path, node))
                if isinstance(node.value, str):
                    self.assertNotIn("%", node.value, at(path, node))
            for node in found(path, ast.FormattedValue):
                self.assertIsInstance(node.value, ast.Name, at(path, node))
                self.assertIsNone(node.format_spec, at(path, node))
            for node in found(path, ast.ListComp):
                self.assertEqual(len(node.generators), 1, at(path, node))
                self.assertLessEqual(len(node.generators[0].ifs), 1, at(path, node))
            for node in found(path, ast.Compare):
                for sign, side in zip(node.ops, node.comparators):
                    if isinstance(sign, (ast.Is, ast.IsNot)):
                        self.assertIsInstance(side, ast.Constant, at(path, node))
                        self.assertIn(type(side.value), (bool, type(None)), at(path, node))

    def test_names(self):
        pythons_own = dir(builtins)
        for path in files():
            bound = bound_names(path)
            for name in bound:
                if name not in UNDERSCORED:
                    self.assertRegex(name, r"^[A-Za-z][A-Za-z0-9_]*$")
                self.assertNotIn(name, NO_NAMES)
            known = bound + top_names(path) + NAMES
            for node in found(path, ast.Name):
                self.assertIn(node.id, known, at(path, node))
            locals_and_parameters = [node.arg for node in found(path, ast.arg)]
            locals_and_parameters += [n.id for n in found(path, ast.Name) if isinstance(n.ctx, ast.Store)]
            for name in locals_and_parameters + top_names(path):
                self.assertNotIn(name, pythons_own)
            imported = [alias.name for node in found(path, ast.ImportFrom) for alias in node.names]
            taken = imported + [node.name for node in found(path, ast.ClassDef)]
            for name in locals_and_parameters:
                self.assertNotIn(name, taken)

    def test_methods_and_values_of_objects(self):
        methods, values = methods_and_values()
        self.assertEqual(methods & values, set())
        self.assertEqual(values & set(NO_VALUES), set())
        for path in files():
            for node in found(path, ast.Attribute):
                self.assertIn(node.attr, METHODS + UNDERSCORED + sorted(methods) + sorted(values), at(path, node))
                self.assertNotIn(node.attr, NO_NAMES, at(path, node))
            for node in found(path, ast.ClassDef):
                for inner in node.body:
                    if isinstance(inner, ast.FunctionDef) and inner.name.startswith("_"):
                        self.assertIn(inner.name, UNDERSCORED)

    def test_imports(self):
        for path in files():
            for node in found(path, ast.ImportFrom):
                self.assertEqual(node.level, 0, at(path, node))
                self.assertEqual(node.module.split(".")[0], PACKAGE, at(path, node))
                drawn_from = ROOT / (node.module.replace(".", "/") + ".py")
                own = [inner.name for inner in found(drawn_from, (ast.FunctionDef, ast.ClassDef))]
                own += [inner.targets[0].id for inner in tree(drawn_from).body if isinstance(inner, ast.Assign)]
                for alias in node.names:
                    self.assertIn(alias.name, own, at(path, node))

    def test_no_two_files_draw_from_one_another(self):
        drawn = {}
        for path in files():
            module = ".".join(path.relative_to(ROOT).with_suffix("").parts)
            drawn[module] = [node.module for node in found(path, ast.ImportFrom)]
        while drawn:
            free = [module for module in drawn if not any(other in drawn for other in drawn[module])]
            self.assertNotEqual(free, [], drawn)
            for module in free:
                del drawn[module]

    def test_walked_at_once(self):
        for path in files():
            whole = tree(path)
            walked = walked_at_once(whole)
            for node in found_in(whole, ast.Call):
                if called(node, WALKED):
                    self.assertTrue(any(node is other for other in walked), at(path, node))

    def test_what_a_loop_walks_is_not_changed_in_it(self):
        for path in files():
            for loop in found(path, ast.For):
                walked = [ast.dump(node) for node in ast.walk(loop.iter) if isinstance(node, (ast.Name, ast.Attribute))]
                for node in found_in(loop, ast.Call):
                    if called(node, CHANGING) and isinstance(node.func, ast.Attribute):
                        self.assertNotIn(ast.dump(node.func.value), walked, at(path, node))
                for node in found_in(loop, ast.Subscript):
                    if isinstance(node.ctx, ast.Store):
                        self.assertNotIn(ast.dump(node.value), walked, at(path, node))

    def test_sets_are_not_kept(self):
        for path in files():
            whole = tree(path)
            within = []
            for node in found_in(whole, ast.Call):
                within += node.args if called(node, ["len", "sorted"]) else []
            for node in found_in(whole, ast.Call):
                if called(node, ["set", "frozenset"]):
                    self.assertTrue(any(node is other for other in within), at(path, node))
            self.assertEqual(found_in(whole, ast.Set), [])

    def test_errors_taken_by_name(self):
        for path in files():
            for node in found(path, ast.ExceptHandler):
                self.assertIsNotNone(node.type, at(path, node))
                taken = node.type.elts if isinstance(node.type, ast.Tuple) else [node.type]
                for name in taken:
                    self.assertNotIn(name.id, ["Exception", "TypeError"], at(path, node))


if __name__ == "__main__":
    unittest.main()
