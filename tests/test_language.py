"""The package keeps to the part of Python that its language rules allow, as far as a walk over its files can tell."""

import ast
import builtins
import pathlib
import re
import unittest

PACKAGE = pathlib.Path(__file__).resolve().parent.parent / "leafpress"

OWN_NAMES = """len range enumerate zip min max sum abs sorted reversed int str bool list tuple dict set frozenset
    isinstance ord repr any all divmod Exception ValueError TypeError KeyError IndexError LookupError
    ZeroDivisionError ArithmeticError OverflowError RuntimeError NotImplementedError AttributeError
    StopIteration""".split()
METHODS = """append clear copy count endswith extend find get index insert isalnum isalpha isdigit islower isspace
    isupper items join keys ljust lower lstrip partition pop remove replace reverse rfind rjust rpartition rsplit
    rstrip setdefault split splitlines startswith strip update upper values zfill bit_length""".split()
WORDS_OUT = """type typing typing_extensions enum Enum IntEnum StrEnum Flag IntFlag Generic Protocol ABC ABCMeta
    namedtuple NamedTuple TypedDict TYPE_CHECKING abstractmethod""".split()
NAMES_OUT = """register mro elements open input version_info with_traceback add_note attrgetter methodcaller os gc
    importlib sys format format_map""".split()
TOP = (ast.ImportFrom, ast.FunctionDef, ast.ClassDef, ast.Assign)
FORMS = (
    ast.Module, ast.ImportFrom, ast.alias, ast.FunctionDef, ast.ClassDef, ast.arguments, ast.arg, ast.Assign,
    ast.AugAssign, ast.If, ast.While, ast.For, ast.Return, ast.Break, ast.Continue, ast.Pass, ast.Raise, ast.Try,
    ast.ExceptHandler, ast.Expr, ast.Constant, ast.List, ast.Tuple, ast.Dict, ast.Set, ast.BinOp, ast.UnaryOp,
    ast.BoolOp, ast.Compare, ast.IfExp, ast.Call, ast.keyword, ast.Attribute, ast.Subscript, ast.Slice,
    ast.ListComp, ast.comprehension, ast.JoinedStr, ast.FormattedValue, ast.Name, ast.Lambda, ast.expr_context,
    ast.operator, ast.unaryop, ast.boolop, ast.cmpop,
)
WALKED = ["zip", "enumerate", "reversed", "range"]
WALKED_METHODS = ["items", "keys", "values"]
WALKERS = ["list", "tuple", "dict", "sorted", "sum", "any", "all", "enumerate", "zip", "min", "max"]
PLAIN = (ast.Constant, ast.List, ast.Tuple, ast.Dict, ast.Name, ast.UnaryOp, ast.USub, ast.expr_context)


def files():
    return sorted(path for path in PACKAGE.rglob("*") if "__pycache__" not in path.parts)


def trees():
    return [(path, ast.parse(path.read_text())) for path in files()]


def top_names(tree):
    names = []
    for one in tree.body:
        if isinstance(one, (ast.FunctionDef, ast.ClassDef)):
            names.append(one.name)
        elif isinstance(one, ast.Assign):
            names.append(one.targets[0].id)
        elif isinstance(one, ast.ImportFrom):
            names.extend(alias.asname or alias.name for alias in one.names)
    return names


def is_docstring(one):
    return isinstance(one, ast.Expr) and isinstance(one.value, ast.Constant) and isinstance(one.value.value, str)


def bound_names(tree):
    for one in ast.walk(tree):
        if isinstance(one, ast.Name) and isinstance(one.ctx, ast.Store):
            yield one, one.id
        elif isinstance(one, ast.arg):
            yield one, one.arg
        elif isinstance(one, (ast.FunctionDef, ast.ClassDef)):
            yield one, one.name


def calls(one, names):
    return isinstance(one, ast.Call) and isinstance(one.func, ast.Name) and one.func.id in names


def is_walk(one):
    if isinstance(one, ast.Call) and isinstance(one.func, ast.Attribute):
        return one.func.attr in WALKED_METHODS
    return calls(one, WALKED)


def walked_on_the_spot(one):
    """The parts of a form that it walks at once."""
    if isinstance(one, (ast.For, ast.comprehension)):
        return [one.iter]
    if calls(one, WALKERS):
        return one.args if one.func.id == "zip" else one.args[:1]
    if isinstance(one, ast.Call) and isinstance(one.func, ast.Attribute) and one.func.attr == "join":
        return one.args
    return []


def asked_on_the_spot(one):
    """The parts of a form that may be a set."""
    if isinstance(one, ast.Compare):
        return [one.left] + one.comparators
    return one.args if calls(one, ["sorted", "len"]) else []


class Language(unittest.TestCase):
    def each(self):
        for path, tree in trees():
            for one in ast.walk(tree):
                yield f"{path.name}:{getattr(one, 'lineno', 0)}", one

    def test_files_and_signs(self):
        self.assertIn("__init__.py", [path.name for path in files()])
        for path in files():
            self.assertRegex(path.name, r"^(__init__|[a-z][a-z0-9_]*)\.py$")
            text = path.read_text()
            self.assertRegex(text, r"\A[ -~\n]*\Z", path.name)
            self.assertLessEqual(len(text.splitlines()), 400, path.name)
            for number, row in enumerate(text.splitlines()):
                self.assertLessEqual(len(row), 120, f"{path.name}:{number + 1}")
            for word in re.findall(r"\w+", text):
                self.assertNotIn(word, WORDS_OUT, path.name)
                self.assertNotRegex(word, "dataclass|overload|contextmanager", path.name)

    def test_the_top_of_a_file(self):
        for path, tree in trees():
            for place, one in enumerate(tree.body):
                where = f"{path.name}:{one.lineno}"
                self.assertTrue(isinstance(one, TOP) or (place == 0 and is_docstring(one)), where)
                if isinstance(one, ast.Assign):
                    self.assertTrue(all(isinstance(part, PLAIN) for part in ast.walk(one.value)), where)
            names = top_names(tree)
            self.assertEqual(len(names), len(set(names)), path.name)

    def test_imports(self):
        defined = {"leafpress." + path.stem: top_names(tree) for path, tree in trees()}
        drawn = {name: set() for name in defined}
        for path, tree in trees():
            for one in ast.walk(tree):
                if isinstance(one, ast.ImportFrom):
                    where = f"{path.name}:{one.lineno}"
                    self.assertIn(one, tree.body, where)
                    self.assertEqual(one.level, 0, where)
                    self.assertIn(one.module, defined, where)
                    self.assertTrue(all(alias.name in defined[one.module] for alias in one.names), where)
                    drawn["leafpress." + path.stem].add(one.module)
        while drawn:
            free = [name for name in drawn if not drawn[name] & set(drawn)]
            self.assertTrue(free, f"files that draw from one another: {sorted(drawn)}")
            drawn = {name: drawn[name] for name in drawn if name not in free}

    def test_forms(self):
        for where, one in self.each():
            self.assertIsInstance(one, FORMS, where)
            if isinstance(one, ast.FunctionDef):
                self.assertLessEqual(one.end_lineno - one.lineno + 1, 40, where)
                self.assertEqual(one.decorator_list, [], where)
                self.assertIsNone(one.args.vararg or one.args.kwarg, where)
                self.assertEqual(one.args.kwonlyargs + one.args.posonlyargs, [], where)
            if isinstance(one, (ast.For, ast.While)):
                self.assertEqual(one.orelse, [], where)
            if isinstance(one, ast.Try):
                self.assertEqual(one.finalbody, [], where)
            if isinstance(one, ast.Assign):
                self.assertEqual(len(one.targets), 1, where)
            if isinstance(one, ast.ListComp):
                self.assertEqual(len(one.generators), 1, where)
                self.assertLessEqual(len(one.generators[0].ifs), 1, where)
            if isinstance(one, ast.Constant):
                self.assertNotIsInstance(one.value, (float, complex, bytes), where)
                self.assertFalse(isinstance(one.value, str) and chr(37) in one.value, where)
            self.assertNotIsInstance(one, (ast.Div, ast.MatMult), where)

    def test_statements_by_themselves_are_calls(self):
        for path, tree in trees():
            for one in ast.walk(tree):
                if isinstance(one, ast.Expr) and one is not tree.body[0]:
                    self.assertIsInstance(one.value, ast.Call, f"{path.name}:{one.lineno}")

    def test_is_stands_beside_none_and_truths(self):
        for where, one in self.each():
            if isinstance(one, ast.Compare) and isinstance(one.ops[0], (ast.Is, ast.IsNot)):
                beside = [part.value for part in [one.left] + one.comparators if isinstance(part, ast.Constant)]
                self.assertTrue(any(value in (None, True, False) for value in beside), where)

    def test_names(self):
        for path, tree in trees():
            for one, name in bound_names(tree):
                where = f"{path.name}:{one.lineno} {name}"
                self.assertTrue(name == "__init__" or not name.startswith("_"), where)
                self.assertFalse(hasattr(builtins, name), where)
                self.assertNotIn(name, NAMES_OUT, where)

    def test_no_name_hides_an_import_or_a_class(self):
        for path, tree in trees():
            classes = [one.name for one in tree.body if isinstance(one, ast.ClassDef)]
            imports = [alias.asname or alias.name
                       for one in tree.body if isinstance(one, ast.ImportFrom) for alias in one.names]
            for one, name in bound_names(tree):
                if one not in tree.body:
                    self.assertNotIn(name, classes + imports, f"{path.name}:{one.lineno}")

    def test_lists_at_the_top_hold_no_lists(self):
        for path, tree in trees():
            for one in tree.body:
                if isinstance(one, ast.Assign):
                    kept = [part for part in ast.walk(one.value) if isinstance(part, (ast.List, ast.Dict))]
                    self.assertTrue(kept in ([], [one.value]), f"{path.name}:{one.lineno}")

    def test_walks_and_sets_are_not_kept(self):
        for path, tree in trees():
            walked = [part for one in ast.walk(tree) for part in walked_on_the_spot(one)]
            asked = [part for one in ast.walk(tree) for part in asked_on_the_spot(one)]
            for one in ast.walk(tree):
                where = f"{path.name}:{getattr(one, 'lineno', 0)}"
                self.assertTrue(not is_walk(one) or one in walked, where)
                self.assertTrue(not (calls(one, ["set", "frozenset"]) or isinstance(one, ast.Set)) or one in asked,
                                where)

    def test_names_of_python(self):
        for where, one in self.each():
            if isinstance(one, ast.Name) and hasattr(builtins, one.id):
                self.assertIn(one.id, OWN_NAMES, where)

    def test_methods(self):
        own = [one.name for where, one in self.each() if isinstance(one, ast.FunctionDef)]
        for where, one in self.each():
            if isinstance(one, ast.Call) and isinstance(one.func, ast.Attribute):
                self.assertIn(one.func.attr, METHODS + own, where)


if __name__ == "__main__":
    unittest.main()
