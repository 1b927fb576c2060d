"""The package keeps to the part of Python that it is written in, as far as a reading of its rows can tell."""

import ast
import builtins
import pathlib
import re
import unittest

PACKAGE = pathlib.Path(__file__).resolve().parent.parent / "manycounts"
FILES = sorted(PACKAGE.rglob("*.py"))

NO_NODES = (
    ast.With, ast.Match, ast.Delete, ast.Global, ast.Nonlocal, ast.Assert, ast.Yield, ast.YieldFrom,
    ast.AsyncFunctionDef, ast.AsyncFor, ast.AsyncWith, ast.Await, ast.SetComp, ast.DictComp,
    ast.GeneratorExp, ast.NamedExpr, ast.Starred, ast.Div, ast.MatMult,
)
OWN_NAMES = (
    "len range enumerate zip min max sum abs sorted reversed int str bool list tuple dict set frozenset isinstance "
    "ord repr any all divmod Exception ValueError KeyError IndexError LookupError ZeroDivisionError ArithmeticError "
    "OverflowError RuntimeError NotImplementedError StopIteration"
).split()
METHODS = (
    "append clear copy count endswith extend find get index insert isalnum isalpha isdigit islower isspace isupper "
    "items join keys ljust lower lstrip partition pop remove replace reverse rfind rjust rpartition rsplit rstrip "
    "setdefault split splitlines startswith strip update upper values zfill bit_length"
).split()
SPECIAL = ("__init__", "__eq__", "__repr__", "__str__", "__len__")
NO_WORDS = (
    "type typing typing_extensions enum Enum IntEnum StrEnum Flag IntFlag Generic Protocol ABC ABCMeta namedtuple "
    "NamedTuple TypedDict TYPE_CHECKING abstractmethod"
).split()


def parsed(path):
    return ast.parse(path.read_text(encoding="ascii"))


def nodes_of(kinds):
    for path in FILES:
        for node in ast.walk(parsed(path)):
            if isinstance(node, kinds):
                yield f"{path.name}:{getattr(node, 'lineno', '?')}", node


class Rows(unittest.TestCase):
    def test_there_are_files(self):
        self.assertIn(PACKAGE / "__init__.py", FILES)

    def test_nothing_else_lies_in_the_package(self):
        for path in PACKAGE.rglob("*"):
            if "__pycache__" not in path.parts:
                self.assertRegex(path.name, r"^[a-z0-9_]+\.py$")

    def test_signs_and_lengths(self):
        for path in FILES:
            text = path.read_text(encoding="utf-8")
            self.assertRegex(text, r"\A[ -~\n]*\Z", path.name)
            rows = text.split("\n")
            self.assertLessEqual(len(rows), 401, path.name)
            self.assertLessEqual(max(len(row) for row in rows), 120, path.name)

    def test_words_that_stand_nowhere(self):
        for path in FILES:
            text = path.read_text(encoding="utf-8")
            found = [word for word in NO_WORDS if re.search(rf"\b{word}\b", text)]
            found += [word for word in ("dataclass", "overload", "contextmanager") if word in text]
            self.assertEqual(found, [], path.name)

    def test_statements_and_expressions(self):
        for place, node in nodes_of(NO_NODES):
            self.fail(f"{place}: {node}")

    def test_one_target_and_no_else_behind_a_loop(self):
        for place, node in nodes_of(ast.Assign):
            self.assertEqual(len(node.targets), 1, place)
        for place, node in nodes_of((ast.For, ast.While)):
            self.assertEqual(node.orelse, [], place)
        for place, node in nodes_of(ast.Try):
            self.assertEqual(node.finalbody, [], place)

    def test_comprehensions_have_one_for_and_at_most_one_if(self):
        for place, node in nodes_of(ast.ListComp):
            self.assertEqual(len(node.generators), 1, place)
            self.assertLessEqual(len(node.generators[0].ifs), 1, place)

    def test_values(self):
        for place, node in nodes_of(ast.Constant):
            plain = node.value is None or isinstance(node.value, (bool, int, str))
            self.assertTrue(plain, place)
            if isinstance(node.value, str):
                self.assertNotIn("%", node.value, place)
        for place, node in nodes_of(ast.FormattedValue):
            self.assertIsInstance(node.value, ast.Name, place)
            self.assertIsNone(node.format_spec, place)

    def test_is_stands_beside_none_true_and_false_alone(self):
        for place, node in nodes_of(ast.Compare):
            if any(isinstance(sign, (ast.Is, ast.IsNot)) for sign in node.ops):
                self.assertIsInstance(node.comparators[0], ast.Constant, place)

    def test_imports(self):
        for place, node in nodes_of(ast.Import):
            self.fail(place)
        for place, node in nodes_of(ast.ImportFrom):
            self.assertEqual(node.level, 0, place)
            self.assertRegex(node.module, r"^manycounts\.[a-z0-9_]+$", place)
            origin = PACKAGE / (node.module.split(".")[1] + ".py")
            bound = [name for top in parsed(origin).body for name in names_bound(top)]
            for alias in node.names:
                self.assertIn(alias.name, bound, place)

    def test_the_top_of_a_module(self):
        allowed = (ast.ImportFrom, ast.FunctionDef, ast.ClassDef, ast.Assign)
        for path in FILES:
            body = parsed(path).body
            self.assertIsNotNone(ast.get_docstring(parsed(path)), path.name)
            for node in body[1:]:
                self.assertIsInstance(node, allowed, path.name)
            bound = [name for node in body for name in names_bound(node)]
            self.assertEqual(len(bound), len(set(bound)), path.name)

    def test_functions(self):
        for place, node in nodes_of(ast.FunctionDef):
            self.assertLessEqual(node.end_lineno - node.lineno + 1, 40, place)
            self.assertEqual(node.decorator_list, [], place)
            given = node.args
            self.assertFalse(given.vararg or given.kwarg or given.kwonlyargs or given.posonlyargs, place)
            if node.name not in SPECIAL:
                self.assert_plain_name(node.name, place)
            for arg in given.args:
                self.assert_plain_name(arg.arg, place)

    def test_classes(self):
        for place, node in nodes_of(ast.ClassDef):
            self.assertEqual(node.decorator_list, [], place)
            self.assertLessEqual(len(node.bases), 1, place)
            for inner in node.body:
                remark = isinstance(inner, ast.Expr) and isinstance(inner.value, ast.Constant)
                self.assertTrue(remark or isinstance(inner, ast.FunctionDef), place)

    def test_names(self):
        for place, node in nodes_of(ast.Name):
            if isinstance(node.ctx, ast.Store):
                self.assert_plain_name(node.id, place)
            elif hasattr(builtins, node.id):
                self.assertIn(node.id, OWN_NAMES, place)

    def test_methods_of_pythons_own_values(self):
        own = set(dir(str) + dir(list) + dir(dict) + dir(set) + dir(int) + dir(bytes))
        for place, node in nodes_of(ast.Attribute):
            if node.attr in own and node.attr != "__init__":
                self.assertIn(node.attr, METHODS + ["add", "discard"], place)

    def test_powers_have_a_written_exponent(self):
        for place, node in nodes_of(ast.BinOp):
            if isinstance(node.op, ast.Pow):
                self.assertIsInstance(node.right, ast.Constant, place)
                self.assertIn(node.right.value, range(65), place)

    def test_no_local_is_called_like_a_class_or_an_import(self):
        for path in FILES:
            top = [node for node in parsed(path).body if isinstance(node, (ast.ClassDef, ast.ImportFrom))]
            taken = {name for node in top for name in names_bound(node)}
            for node in ast.walk(parsed(path)):
                name = node.arg if isinstance(node, ast.arg) else None
                if isinstance(node, ast.Name) and isinstance(node.ctx, ast.Store):
                    name = node.id
                self.assertNotIn(name, taken, path.name)

    def test_no_name_is_a_method_here_and_a_value_there(self):
        methods = {inner.name for place, node in nodes_of(ast.ClassDef) for inner in methods_of(node)}
        values = {node.attr for place, node in nodes_of(ast.Attribute) if isinstance(node.ctx, ast.Store)}
        self.assertEqual(methods & values, set())

    def test_methods_stand_once_and_have_free_names(self):
        for place, node in nodes_of(ast.ClassDef):
            names = [inner.name for inner in methods_of(node)]
            self.assertEqual(len(names), len(set(names)), place)
            for name in names:
                self.assertTrue(name in SPECIAL or not name.startswith("_"), place)

    def test_no_two_files_draw_from_one_another(self):
        drawn = {path.stem: files_drawn_from(path) for path in FILES}
        while drawn:
            free = [name for name in drawn if not any(other in drawn for other in drawn[name])]
            self.assertNotEqual(free, [], f"a ring of imports among {sorted(drawn)}")
            drawn = {name: drawn[name] for name in drawn if name not in free}

    def assert_plain_name(self, name, place):
        self.assertRegex(name, r"^[A-Za-z][A-Za-z0-9_]*$", place)
        self.assertFalse(hasattr(builtins, name), f"{place}: {name}")


def methods_of(node):
    return [inner for inner in node.body if isinstance(inner, ast.FunctionDef)]


def files_drawn_from(path):
    return [node.module.split(".")[1] for node in parsed(path).body if isinstance(node, ast.ImportFrom)]


def names_bound(node):
    if isinstance(node, (ast.FunctionDef, ast.ClassDef)):
        return [node.name]
    if isinstance(node, ast.Assign):
        return [target.id for target in node.targets]
    if isinstance(node, ast.ImportFrom):
        return [alias.asname or alias.name for alias in node.names]
    return []


if __name__ == "__main__":
    unittest.main()
