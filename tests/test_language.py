"""The package keeps to the small part of Python that it is written in, as far as a walk over its trees can see."""

import ast
import builtins
import pathlib
import re
import unittest

PACKAGE = pathlib.Path(__file__).resolve().parent.parent / "cardplaces"
FILES = sorted(path for path in PACKAGE.rglob("*") if "__pycache__" not in path.parts)

NODES = set("""Module Import ImportFrom alias FunctionDef arguments arg Lambda ClassDef Assign AugAssign AnnAssign If
    While For Return Break Continue Pass Raise Try ExceptHandler Expr Constant List Tuple Dict Set BinOp UnaryOp BoolOp
    Compare IfExp Call keyword Attribute Subscript Slice ListComp comprehension JoinedStr FormattedValue Name Load Store
    Add Sub Mult FloorDiv Mod Pow BitAnd BitOr BitXor LShift RShift Invert Not USub UAdd And Or
    Eq NotEq Lt LtE Gt GtE In NotIn Is IsNot""".split())
OWN_NAMES = set("""len range enumerate zip min max sum abs sorted reversed int str bool list tuple dict set frozenset
    isinstance ord repr any all divmod Exception ValueError TypeError KeyError IndexError LookupError ZeroDivisionError
    ArithmeticError OverflowError RuntimeError NotImplementedError AttributeError StopIteration""".split())
OWN_METHODS = set("""append clear copy count endswith extend find get index insert isalnum isalpha isdigit islower
    isspace isupper items join keys ljust lower lstrip partition pop remove replace reverse rfind rjust rpartition
    rsplit rstrip setdefault split splitlines startswith strip update upper values zfill bit_length""".split())
TWO_UNDERSCORES = {"__init__", "__eq__", "__repr__", "__str__", "__len__"}
WORDS_NOWHERE = re.compile(r"\b(type|typing|typing_extensions|enum|Enum|IntEnum|StrEnum|Flag|IntFlag|Generic|Protocol|"
                           r"ABC|ABCMeta|namedtuple|NamedTuple|TypedDict|TYPE_CHECKING|abstractmethod)\b|"
                           r"dataclass|overload|contextmanager")
NAMES_NOWHERE = {"register", "mro", "elements", "open", "input", "version_info", "with_traceback", "add_note"}
WALKED_AT_ONCE = {"zip", "enumerate", "reversed", "range"}
KEYWORDS = {"sorted": {"key", "reverse"}, "min": {"key", "default"}, "max": {"key", "default"}, "sum": {"start"},
            "enumerate": {"start"}, "zip": {"strict"}}


def nodes_of(path, *kinds):
    tree = ast.parse(path.read_text(encoding="ascii"))
    return [node for node in ast.walk(tree) if not kinds or isinstance(node, kinds)]


def methods_of(path):
    return {part.name for node in nodes_of(path, ast.ClassDef) for part in node.body
            if isinstance(part, ast.FunctionDef)}


def values_of(path):
    return {node.attr for node in nodes_of(path, ast.Attribute) if isinstance(node.ctx, ast.Store)}


class LanguageTest(unittest.TestCase):
    def each(self, *kinds):
        for path in FILES:
            for node in nodes_of(path, *kinds):
                yield f"{path.name}:{getattr(node, 'lineno', 0)}", node

    def test_files(self):
        self.assertIn(PACKAGE / "__init__.py", FILES)
        for path in FILES:
            self.assertRegex(path.name, r"^([a-z][a-z0-9_]*|__init__|__main__)\.py$")
            self.assertNotIn(path.stem, dir(builtins))

    def test_signs_and_size(self):
        for path in FILES:
            text = path.read_text(encoding="utf-8")
            self.assertRegex(text, r"\A[ -~\n]*\Z")
            lines = text.split("\n")
            self.assertLessEqual(len(lines), 400, path.name)
            self.assertLessEqual(max(len(line) for line in lines), 120, path.name)
            self.assertIsNone(WORDS_NOWHERE.search(text), path.name)
        for where, node in self.each(ast.FunctionDef):
            self.assertLessEqual(node.end_lineno - node.lineno + 1, 40, where)

    def test_nodes(self):
        for where, node in self.each():
            self.assertIn(type(node).__name__, NODES, where)

    def test_constants(self):
        for where, node in self.each(ast.Constant):
            self.assertIn(type(node.value), (int, str, bool, type(None)), where)
            if isinstance(node.value, str):
                self.assertNotIn("%", node.value, where)

    def test_top_of_a_module(self):
        for path in FILES:
            tree = ast.parse(path.read_text(encoding="ascii"))
            bound = []
            for spot, node in enumerate(tree.body):
                where = f"{path.name}:{node.lineno}"
                if isinstance(node, ast.Expr):
                    self.assertEqual(spot, 0, where)
                    self.assertIsInstance(node.value.value, str, where)
                elif isinstance(node, ast.Assign):
                    bound.append(node.targets[0].id)
                elif isinstance(node, ast.ImportFrom):
                    bound.extend(name.name for name in node.names)
                else:
                    self.assertIsInstance(node, (ast.FunctionDef, ast.ClassDef), where)
                    bound.append(node.name)
            self.assertEqual(len(bound), len(set(bound)), path.name)

    def test_imports(self):
        for where, node in self.each(ast.Import, ast.ImportFrom):
            self.assertIsInstance(node, ast.ImportFrom, where)
            self.assertEqual(node.level, 0, where)
            self.assertRegex(node.module, r"^cardplaces\.[a-z]+$", where)
            self.assertEqual(node.col_offset, 0, where)
            source = PACKAGE / (node.module.split(".")[1] + ".py")
            defined = {part.name for part in nodes_of(source, ast.FunctionDef, ast.ClassDef) if part.col_offset == 0}
            for name in node.names:
                self.assertIn(name.name, defined, where)
                self.assertIsNone(name.asname, where)

    def test_no_two_files_draw_from_one_another(self):
        draws = {path.stem: {node.module.split(".")[1] for node in nodes_of(path, ast.ImportFrom)} for path in FILES}
        while draws:
            free = [stem for stem in draws if not draws[stem] & set(draws)]
            self.assertTrue(free, draws)
            for stem in free:
                draws.pop(stem)

    def test_functions(self):
        for where, node in self.each(ast.FunctionDef, ast.Lambda):
            self.assertFalse(node.args.vararg or node.args.kwarg or node.args.kwonlyargs, where)
            self.assertFalse(getattr(node, "decorator_list", []), where)

    def test_classes(self):
        for where, node in self.each(ast.ClassDef):
            self.assertLessEqual(len(node.bases), 1, where)
            self.assertFalse(node.decorator_list or node.keywords, where)
            names = [part.name for part in node.body if not isinstance(part, ast.Pass)]
            self.assertEqual(len(names), len(set(names)), where)

    def test_statements(self):
        for where, node in self.each():
            if isinstance(node, ast.Assign):
                self.assertEqual(len(node.targets), 1, where)
            if isinstance(node, (ast.For, ast.While)):
                self.assertFalse(node.orelse, where)
            if isinstance(node, ast.Try):
                self.assertFalse(node.finalbody, where)
            if isinstance(node, ast.Expr) and node.col_offset:
                self.assertIsInstance(node.value, ast.Call, where)
            if isinstance(node, ast.comprehension):
                self.assertLessEqual(len(node.ifs), 1, where)
            if isinstance(node, ast.ListComp):
                self.assertEqual(len(node.generators), 1, where)
            if isinstance(node, ast.Compare) and isinstance(node.ops[0], (ast.Is, ast.IsNot)):
                self.assertIsInstance(node.comparators[0], ast.Constant, where)

    def test_names(self):
        for where, node in self.each(ast.Name, ast.arg, ast.FunctionDef, ast.ClassDef, ast.Attribute):
            name = getattr(node, "id", None) or getattr(node, "arg", None) or getattr(node, "name", None) or node.attr
            self.assertNotIn(name, NAMES_NOWHERE, where)
            if name not in TWO_UNDERSCORES:
                self.assertFalse(name.startswith("_"), where)
            if isinstance(node, ast.Name) and isinstance(node.ctx, ast.Load) and name in dir(builtins):
                self.assertIn(name, OWN_NAMES, where)
            if isinstance(node, ast.arg) or isinstance(getattr(node, "ctx", None), ast.Store):
                self.assertTrue(isinstance(node, ast.Attribute) or name not in dir(builtins), where)

    def test_no_local_is_called_like_a_class_or_an_import(self):
        for path in FILES:
            taken = {name.name for node in nodes_of(path, ast.ImportFrom) for name in node.names}
            taken |= {node.name for node in nodes_of(path, ast.ClassDef)}
            for node in nodes_of(path, ast.Name, ast.arg):
                if isinstance(node, ast.arg) or isinstance(node.ctx, ast.Store):
                    name = node.arg if isinstance(node, ast.arg) else node.id
                    self.assertNotIn(name, taken, f"{path.name}:{node.lineno}")

    def test_what_a_file_holds_is_only_read(self):
        for path in FILES:
            tree = ast.parse(path.read_text(encoding="ascii"))
            held = {node.targets[0].id for node in tree.body if isinstance(node, ast.Assign)}
            for node in nodes_of(path, ast.Attribute, ast.Subscript):
                if isinstance(node.value, ast.Name) and node.value.id in held:
                    self.assertIsInstance(node, ast.Subscript, f"{path.name}:{node.lineno}")
                    self.assertIsInstance(node.ctx, ast.Load, f"{path.name}:{node.lineno}")

    def test_keywords(self):
        for where, node in self.each(ast.Call):
            for keyword in node.keywords:
                self.assertIsInstance(node.func, ast.Name, where)
                self.assertIn(keyword.arg, KEYWORDS.get(node.func.id, set()), where)

    def test_sets_are_not_kept(self):
        for path in FILES:
            let = set()
            for node in nodes_of(path, ast.Call):
                if getattr(node.func, "id", "") in ("sorted", "len") and not node.keywords:
                    let |= {ast.unparse(part) for part in node.args}
            for node in nodes_of(path, ast.Call, ast.Set):
                if isinstance(node, ast.Set) or getattr(node.func, "id", "") in ("set", "frozenset"):
                    self.assertIn(ast.unparse(node), let, f"{path.name}:{node.lineno}")

    def test_no_escapes_but_those_that_are_let(self):
        for path in FILES:
            text = path.read_text(encoding="ascii").replace("\\\\", "")
            self.assertIsNone(re.search(r"\\[^nt'\"]", text), path.name)

    def test_methods_and_values(self):
        methods = {name for path in FILES for name in methods_of(path)}
        values = {name for path in FILES for name in values_of(path)}
        self.assertEqual(methods & values, set())
        for where, node in self.each(ast.Attribute):
            self.assertIn(node.attr, OWN_METHODS | methods | values, where)

    def test_walked_at_once(self):
        for path in FILES:
            kept = [node.value for node in nodes_of(path, ast.Assign, ast.AugAssign, ast.Return)]
            for value in kept:
                if isinstance(value, ast.Call):
                    name = getattr(value.func, "id", getattr(value.func, "attr", ""))
                    self.assertNotIn(name, WALKED_AT_ONCE | {"items", "keys", "values"}, f"{path.name}:{value.lineno}")


if __name__ == "__main__":
    unittest.main()
