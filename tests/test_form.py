"""The form of the package's own files: what ../shared/LANGUAGE.md asks and a walk over the code can see."""

import ast
import builtins
import re
import unittest
from pathlib import Path

PACKAGE = Path(__file__).resolve().parent.parent / "forerun"

# L8, less chr (L27).
OWN_NAMES = set(
    "len range enumerate zip min max sum abs sorted reversed int str bool list tuple dict set frozenset isinstance ord "
    "repr any all divmod Exception ValueError TypeError KeyError IndexError LookupError ZeroDivisionError "
    "ArithmeticError OverflowError RuntimeError NotImplementedError AttributeError StopIteration".split()
)
# L5.
OWN_METHODS = {"__init__", "__eq__", "__repr__", "__str__", "__len__"}
# L17, L26.
NEVER_ATTRIBUTES = set(
    "register mro elements open input version_info with_traceback add_note format format_map sort encode args".split()
)
# L25.
METHODS = set(
    "append clear copy count endswith extend find get index insert isalnum isalpha isdigit islower isspace isupper "
    "items join keys ljust lower lstrip partition pop remove replace reverse rfind rjust rpartition rsplit rstrip "
    "setdefault split splitlines startswith strip update upper values zfill bit_length".split()
)
# L26: which names of Python's own values a method, or a value, of an object may bear.
OWN_TOO = METHODS | OWN_METHODS | {"add", "discard"}
VALUES_TOO = set("count index title find get join lower upper split strip copy add".split())
NEVER_WORDS = re.compile(
    r"\b(type|typing|typing_extensions|enum|Enum|IntEnum|StrEnum|Flag|IntFlag|Generic|Protocol|ABC|ABCMeta|namedtuple"
    r"|NamedTuple|TypedDict|TYPE_CHECKING|abstractmethod)\b|dataclass|overload|contextmanager"
)
# L6, L7: what a file may be made of.
NODES = (
    ast.Module, ast.FunctionDef, ast.ClassDef, ast.Return, ast.Assign, ast.AugAssign, ast.For, ast.While, ast.If,
    ast.Raise, ast.Try, ast.ExceptHandler, ast.ImportFrom, ast.alias, ast.Expr, ast.Pass, ast.Break, ast.Continue,
    ast.BoolOp, ast.BinOp, ast.UnaryOp, ast.Lambda, ast.IfExp, ast.Dict, ast.Set, ast.ListComp, ast.comprehension,
    ast.Compare, ast.Call, ast.keyword, ast.FormattedValue, ast.JoinedStr, ast.Constant, ast.Attribute, ast.Subscript,
    ast.Slice, ast.Name, ast.List, ast.Tuple, ast.arguments, ast.arg, ast.expr_context, ast.boolop, ast.operator,
    ast.unaryop, ast.cmpop,
)
NO_OPERATORS = (ast.Div, ast.MatMult)
# L17: as names.
NEVER_NAMES = set(
    "attrgetter breakpoint builtins compile copyright credits delattr dir eval exec exit gc getattr globals hasattr help "
    "id importlib license locals methodcaller os quit setattr super type vars sys register mro elements open input "
    "version_info with_traceback add_note".split()
)
# L22.
KEYWORDS = {
    "sorted": {"key", "reverse"}, "min": {"key", "default"}, "max": {"key", "default"}, "sum": {"start"},
    "enumerate": {"start"}, "zip": {"strict"},
}
# L23: what is walked on the spot, and in what.
WALKED = {"zip", "enumerate", "reversed", "range", "items", "keys", "values"}
WALKING = {"list", "tuple", "dict", "sorted", "sum", "any", "all", "enumerate", "zip", "min", "max", "join"}
CHANGES = {"append", "clear", "extend", "insert", "pop", "remove", "reverse", "setdefault", "update"}


def files():
    return sorted(PACKAGE.rglob("*.py"))


def walked(path):
    return list(ast.walk(ast.parse(path.read_text(encoding="utf-8"))))


def bound_names(node):
    if isinstance(node, (ast.FunctionDef, ast.ClassDef)):
        return [node.name]
    if isinstance(node, ast.arg):
        return [node.arg]
    if isinstance(node, ast.Name) and isinstance(node.ctx, ast.Store):
        return [node.id]
    if isinstance(node, ast.Attribute) and isinstance(node.ctx, ast.Store):
        return [node.attr]
    return []


def plain(node):
    if isinstance(node, ast.UnaryOp):
        return isinstance(node.op, ast.USub) and isinstance(node.operand, ast.Constant)
    if isinstance(node, (ast.List, ast.Tuple)):
        return all(plain(each) for each in node.elts)
    if isinstance(node, ast.Dict):
        return all(plain(each) for each in node.keys + node.values)
    return isinstance(node, (ast.Constant, ast.Name))


def each(*kinds):
    """All parts of these kinds in the package, each with the words for where it stands."""
    found = []
    for path in files():
        for node in walked(path):
            if not kinds or isinstance(node, kinds):
                found.append((node, f"{path.name}, line {getattr(node, 'lineno', 0)}"))
    return found


def called(node):
    """The name by which a call calls, or None where the node is no such call."""
    if not isinstance(node, ast.Call):
        return None
    return getattr(node.func, "id", getattr(node.func, "attr", None))


def with_parents():
    """All parts of the package that stand in another one, each with that one."""
    found = []
    for node, where in each():
        for part in ast.iter_child_nodes(node):
            found.append((part, node, where))
    return found


def walked_things(node):
    """The words of what a loop walks: itself, or through enumerate, zip, reversed, items and their like."""
    found, ahead = [], [node]
    while ahead:
        thing = ahead.pop()
        if called(thing) in WALKED:
            ahead.extend(thing.args)
            ahead.extend([thing.func.value] if isinstance(thing.func, ast.Attribute) else [])
        else:
            found.append(ast.unparse(thing))
    return found


def changed_things(node):
    """The words of all that is changed within a part: by a method, or by an index."""
    found = []
    for part in ast.walk(node):
        if called(part) in CHANGES and isinstance(part.func, ast.Attribute):
            found.append(ast.unparse(part.func.value))
        if isinstance(part, ast.Subscript) and isinstance(part.ctx, ast.Store):
            found.append(ast.unparse(part.value))
    return found


class Form(unittest.TestCase):
    def test_there_are_files(self):
        self.assertIn(PACKAGE / "__init__.py", files())

    def test_l1_l14_nothing_else_lies_in_the_folder(self):
        for path in PACKAGE.rglob("*"):
            if "__pycache__" not in path.parts and path.is_file():
                self.assertRegex(path.name, r"^([a-z][a-z0-9_]*|__init__|__main__)\.py$")
                self.assertNotIn(path.stem, dir(builtins))

    def test_l10_l14_size_and_signs(self):
        for path in files():
            text = path.read_text(encoding="utf-8")
            lines = text.split("\n")
            self.assertLessEqual(len(lines), 400, path.name)
            self.assertLessEqual(max(len(line) for line in lines), 120, path.name)
            self.assertRegex(text, r"\A[ -~\n]*\Z", path.name)
            self.assertIsNone(NEVER_WORDS.search(text), path.name)
        for node, where in each(ast.FunctionDef):
            self.assertLessEqual(node.end_lineno - node.lineno + 1, 40, where)

    def test_l3_the_top_of_a_module(self):
        for path in files():
            body = ast.parse(path.read_text(encoding="utf-8")).body
            for at, node in enumerate(body):
                with self.subTest(file=path.name, line=node.lineno):
                    if at == 0:
                        self.assertIsInstance(node, ast.Expr)
                        self.assertIsInstance(node.value, ast.Constant)
                    elif isinstance(node, ast.Assign):
                        self.assertTrue(plain(node.value))
                    else:
                        self.assertIsInstance(node, (ast.ImportFrom, ast.FunctionDef, ast.ClassDef))

    def test_l2_l16_imports_from_the_packages_own_files(self):
        for path in files():
            for node in walked(path):
                if isinstance(node, ast.ImportFrom):
                    with self.subTest(file=path.name, line=node.lineno):
                        self.assertEqual(node.level, 0)
                        self.assertRegex(node.module, r"^forerun\.[a-z_]+$")
                        source = PACKAGE / (node.module.split(".")[1] + ".py")
                        defined = ast.parse(source.read_text(encoding="utf-8")).body
                        names = [name for each in defined for inner in ast.walk(each) for name in bound_names(inner)]
                        for one in node.names:
                            self.assertIsNone(one.asname)
                            self.assertIn(one.name, names)

    def test_l16_no_two_files_draw_from_one_another(self):
        draws = {}
        for path in files():
            found = [node.module.split(".")[1] for node in walked(path) if isinstance(node, ast.ImportFrom)]
            draws[path.stem] = found
        for start in draws:
            reached, ahead = set(), list(draws[start])
            while ahead:
                stem = ahead.pop()
                if stem not in reached:
                    reached.add(stem)
                    ahead.extend(draws[stem])
            self.assertNotIn(start, reached)

    def test_l4_l5_functions_and_classes(self):
        for node, where in each(ast.FunctionDef, ast.ClassDef):
            self.assertEqual(node.decorator_list, [], where)
            if isinstance(node, ast.FunctionDef):
                rules = node.args
                others = (rules.vararg, rules.kwarg, rules.kwonlyargs, rules.posonlyargs)
                self.assertEqual(others, (None, None, [], []), where)
            else:
                self.assertLessEqual(len(node.bases), 1, where)
                for part in node.body:
                    self.assertIsInstance(part, (ast.FunctionDef, ast.Pass), where)

    def test_l6_l7_statements_and_expressions(self):
        for node, where in each():
            self.assertIsInstance(node, NODES, where)
            self.assertNotIsInstance(node, NO_OPERATORS, where)
            if isinstance(node, ast.Assign):
                self.assertEqual(len(node.targets), 1, where)
            if isinstance(node, (ast.For, ast.While)):
                self.assertEqual(node.orelse, [], where)
            if isinstance(node, ast.Try):
                self.assertEqual(node.finalbody, [], where)
            if isinstance(node, ast.ListComp):
                self.assertEqual(len(node.generators), 1, where)
                self.assertLessEqual(len(node.generators[0].ifs), 1, where)
            if isinstance(node, ast.Constant):
                self.assertIn(type(node.value), (int, str, bool, type(None)), where)
            if isinstance(node, ast.FormattedValue):
                self.assertIsInstance(node.value, ast.Name, where)
                self.assertIsNone(node.format_spec, where)

    def test_l8_l15_pythons_own_names(self):
        for node, where in each(ast.Name):
            if node.id in dir(builtins):
                self.assertIn(node.id, OWN_NAMES, where)
                self.assertIsInstance(node.ctx, ast.Load, where)
        for node, where in each(ast.arg):
            self.assertNotIn(node.arg, dir(builtins), where)

    def test_l12_l17_names(self):
        for node, where in each():
            for name in bound_names(node):
                if name not in OWN_METHODS:
                    self.assertRegex(name, r"^[A-Za-z][A-Za-z0-9_]*$", where)
            if isinstance(node, ast.Attribute):
                self.assertNotIn(node.attr, NEVER_ATTRIBUTES, where)
            if isinstance(node, ast.Name):
                self.assertNotIn(node.id, NEVER_NAMES, where)

    def test_l15_each_name_once_at_the_top(self):
        for path in files():
            body = ast.parse(path.read_text(encoding="utf-8")).body
            names = [one.name for node in body if isinstance(node, ast.ImportFrom) for one in node.names]
            for node in body:
                names.extend(bound_names(node))
                names.extend(target.id for target in getattr(node, "targets", []))
            self.assertEqual(len(names), len(set(names)), path.name)

    def test_l15_no_local_is_called_like_a_class_or_an_import(self):
        for path in files():
            body = ast.parse(path.read_text(encoding="utf-8")).body
            taken = [one.name for node in body if isinstance(node, ast.ImportFrom) for one in node.names]
            taken += [node.name for node in body if isinstance(node, ast.ClassDef)]
            for node in walked(path):
                if isinstance(node, (ast.arg, ast.Name)):
                    for name in bound_names(node):
                        self.assertNotIn(name, taken, path.name)

    def test_l18_no_name_is_a_method_and_a_value(self):
        methods, values = set(), set()
        for node, where in each(ast.ClassDef):
            names = [part.name for part in node.body if isinstance(part, ast.FunctionDef)]
            self.assertEqual(len(names), len(set(names)), where)
            methods.update(names)
        for node, where in each(ast.Attribute):
            values.update(bound_names(node))
        self.assertEqual(methods & values, set())

    def test_l19_errors(self):
        for node, where in each(ast.ExceptHandler):
            self.assertIsNotNone(node.type, where)
            caught = node.type.elts if isinstance(node.type, ast.Tuple) else [node.type]
            for kind in caught:
                self.assertNotIn(kind.id, ("Exception", "TypeError"), where)
        for node, where in each(ast.Raise):
            self.assertIsInstance(node.exc, ast.Call, where)

    def test_l18_a_class_is_called_or_a_base_or_stands_by_isinstance_and_errors(self):
        classes = {node.name for node, where in each(ast.ClassDef)}
        for part, node, where in with_parents():
            if isinstance(part, ast.Name) and part.id in classes:
                if isinstance(node, ast.Call) and part in node.args:
                    self.assertEqual(called(node), "isinstance", where)
                elif isinstance(node, ast.Attribute):
                    self.assertEqual(node.attr, "__init__", where)
                else:
                    self.assertIsInstance(node, (ast.Call, ast.ClassDef, ast.ExceptHandler, ast.Tuple), where)

    def test_l22_keywords_of_pythons_own(self):
        for node, where in each(ast.Call):
            own = isinstance(node.func, ast.Name) and node.func.id in OWN_NAMES or called(node) in METHODS
            if own:
                for keyword in node.keywords:
                    self.assertIn(keyword.arg, KEYWORDS.get(called(node), ()), where)

    def test_l23_walked_at_once(self):
        for part, node, where in with_parents():
            if called(part) in WALKED:
                if isinstance(node, (ast.For, ast.comprehension)):
                    self.assertIs(node.iter, part, where)
                else:
                    self.assertIn(called(node), WALKING, where)
                    self.assertTrue(called(node) == "zip" or node.args[0] is part, where)

    def test_l23_what_a_loop_walks_is_not_changed_in_it(self):
        for node, where in each(ast.For):
            changed = [thing for part in node.body for thing in changed_things(part)]
            for thing in walked_things(node.iter):
                self.assertNotIn(thing, changed, where)

    def test_l24_no_set_is_kept_or_walked(self):
        for part, node, where in with_parents():
            self.assertNotIsInstance(part, ast.Set, where)
            if called(part) in ("set", "frozenset"):
                beside = isinstance(node, (ast.Compare, ast.BinOp)) or called(node) in ("sorted", "len")
                self.assertTrue(beside, where)

    def test_l25_a_method_is_called_where_it_stands(self):
        for part, node, where in with_parents():
            if isinstance(part, ast.Attribute) and part.attr in METHODS and isinstance(part.ctx, ast.Load):
                self.assertTrue(isinstance(node, ast.Call) and node.func is part, where)

    def test_l28_the_methods_with_two_underscores(self):
        for node, where in each(ast.FunctionDef):
            if node.name == "__init__":
                given = [part.value for part in ast.walk(node) if isinstance(part, ast.Return)]
                self.assertEqual([value for value in given if value is not None], [], where)

    def test_l25_methods_of_pythons_own_values_or_of_the_package(self):
        own = [name for node, where in each(ast.FunctionDef, ast.Attribute) for name in bound_names(node)]
        for node, where in each(ast.Attribute):
            self.assertIn(node.attr, METHODS | OWN_METHODS | set(own), where)

    def test_l26_own_methods_and_values(self):
        taken = {name for kind in (str, int, list, dict, set, bytes) for name in dir(kind)}
        for node, where in each(ast.ClassDef):
            names = {part.name for part in node.body if isinstance(part, ast.FunctionDef)}
            self.assertEqual(names & taken - OWN_TOO, set(), where)
        for node, where in each(ast.Attribute):
            self.assertEqual(set(bound_names(node)) & taken - VALUES_TOO, set(), where)

    def test_l20_is_beside_none_and_truths_alone(self):
        for node, where in each(ast.Compare):
            for operator, right in zip(node.ops, node.comparators):
                if isinstance(operator, (ast.Is, ast.IsNot)):
                    sides = [side for side in (node.left, right) if isinstance(side, ast.Constant)]
                    self.assertTrue(any(side.value is None or type(side.value) is bool for side in sides), where)

    def test_l21_no_annotations(self):
        for node, where in each(ast.FunctionDef, ast.arg):
            self.assertIsNone(node.returns if isinstance(node, ast.FunctionDef) else node.annotation, where)

    def test_l27_numbers_and_texts(self):
        for node, where in each(ast.Constant):
            if isinstance(node.value, str):
                self.assertNotIn("%", node.value, where)


if __name__ == "__main__":
    unittest.main()
