"""Holds the package to the rules of LANGUAGE.md that can be read off its files."""

import ast
import builtins
import pathlib
import re
import unittest

PACKAGE = pathlib.Path(__file__).resolve().parent.parent / "lotdraw"
FILES = sorted(PACKAGE.rglob("*.py"))

NODES = set("""
Module FunctionDef ClassDef arguments arg Lambda Return Assign AugAssign AnnAssign For While If Raise Try
ExceptHandler ImportFrom alias Expr Pass Break Continue BoolOp BinOp UnaryOp IfExp Dict Set ListComp comprehension
Compare Call FormattedValue JoinedStr Constant Attribute Subscript Name List Tuple Slice Load Store keyword
And Or Add Sub Mult Mod Pow LShift RShift BitOr BitXor BitAnd FloorDiv Invert Not UAdd USub
Eq NotEq Lt LtE Gt GtE Is IsNot In NotIn
""".split())
OWN_NAMES = set("""
len range enumerate zip min max sum abs sorted reversed int str bool list tuple dict set frozenset isinstance ord
repr any all divmod Exception ValueError TypeError KeyError IndexError LookupError ZeroDivisionError ArithmeticError
OverflowError RuntimeError NotImplementedError AttributeError StopIteration True False None
""".split())
METHODS = set("""
append clear copy count endswith extend find get index insert isalnum isalpha isdigit islower isspace isupper items
join keys ljust lower lstrip partition pop remove replace reverse rfind rjust rpartition rsplit rstrip setdefault
split splitlines startswith strip update upper values zfill bit_length
""".split())
WORDS = set("""
type typing typing_extensions enum Enum IntEnum StrEnum Flag IntFlag Generic Protocol ABC ABCMeta namedtuple
NamedTuple TypedDict TYPE_CHECKING abstractmethod
""".split())
UNUSED = set("""
register mro elements open input version_info with_traceback add_note attrgetter breakpoint builtins compile
copyright credits delattr dir eval exec exit gc getattr globals hasattr help id importlib license locals
methodcaller os quit setattr super type vars sys format format_map
""".split())


WALKED = set("zip enumerate reversed range items keys values".split())
WALKERS = set("list tuple dict sorted sum any all enumerate zip min max join".split())
KEYWORDS = {
    "sorted": {"key", "reverse"}, "min": {"key", "default"}, "max": {"key", "default"}, "sum": {"start"},
    "enumerate": {"start"}, "zip": {"strict"},
}


def called(node):
    """The name of what is called, or None where nothing is."""
    if not isinstance(node, ast.Call):
        return None
    return node.func.attr if isinstance(node.func, ast.Attribute) else getattr(node.func, "id", None)


def with_parents(tree):
    for parent in ast.walk(tree):
        for node in ast.iter_child_nodes(parent):
            yield node, parent


def names_bound(tree):
    for node in ast.walk(tree):
        if isinstance(node, ast.Name) and isinstance(node.ctx, ast.Store):
            yield node.id
        elif isinstance(node, ast.arg):
            yield node.arg
        elif isinstance(node, ast.ExceptHandler) and node.name:
            yield node.name


def own_methods():
    told = set()
    for path in FILES:
        for node in ast.walk(ast.parse(path.read_text())):
            if isinstance(node, ast.ClassDef):
                told.update(part.name for part in node.body if isinstance(part, ast.FunctionDef))
    return told


class Language(unittest.TestCase):
    def each(self):
        for path in FILES:
            text = path.read_text(encoding="utf-8")
            yield path, text, ast.parse(text, filename=path.name)

    def test_only_plain_files_lie_there(self):
        self.assertIn(PACKAGE / "__init__.py", FILES)
        for path in PACKAGE.rglob("*"):
            if path.name != "__pycache__" and path.parent.name != "__pycache__":
                self.assertRegex(path.name, r"^[a-z0-9_]+\.py$")
                self.assertNotIn(path.stem, dir(builtins))

    def test_signs_and_sizes(self):
        for path, text, tree in self.each():
            self.assertRegex(text, r"\A[ -~\n]*\Z")
            self.assertLessEqual(len(text.splitlines()), 400)
            self.assertLessEqual(max(len(line) for line in text.splitlines()), 120)
            for node in ast.walk(tree):
                if isinstance(node, ast.FunctionDef):
                    self.assertLessEqual(node.end_lineno - node.lineno + 1, 40, node.name)

    def test_words_that_stand_nowhere(self):
        for path, text, tree in self.each():
            self.assertFalse(WORDS & set(re.findall(r"\w+", text)))
            self.assertNotRegex(text, "dataclass|overload|contextmanager")

    def test_statements_and_expressions(self):
        for path, text, tree in self.each():
            for node in ast.walk(tree):
                self.assertIn(type(node).__name__, NODES, getattr(node, "lineno", 0))
                if isinstance(node, ast.Assign):
                    self.assertEqual(len(node.targets), 1)
                    self.assertNotIsInstance(node.targets[0], (ast.Tuple, ast.List))
                if isinstance(node, ast.Constant):
                    self.assertIn(type(node.value), (int, str, bool, type(None)))
                if isinstance(node, (ast.For, ast.While)):
                    self.assertFalse(node.orelse)
                if isinstance(node, ast.Try):
                    self.assertFalse(node.finalbody)
                if isinstance(node, ast.comprehension):
                    self.assertLessEqual(len(node.ifs), 1)
                if isinstance(node, ast.ListComp):
                    self.assertEqual(len(node.generators), 1)

    def test_only_texts_by_themselves_are_the_docstrings_of_files(self):
        for path, text, tree in self.each():
            self.assertIsNotNone(ast.get_docstring(tree))
            for node in ast.walk(tree):
                if isinstance(node, ast.Expr) and node is not tree.body[0]:
                    self.assertIsInstance(node.value, ast.Call)

    def test_powers_have_a_written_exponent_and_no_text_a_percent_sign(self):
        for path, text, tree in self.each():
            for node in ast.walk(tree):
                if isinstance(node, ast.BinOp) and isinstance(node.op, ast.Pow):
                    self.assertIsInstance(node.right, ast.Constant)
                    self.assertIn(node.right.value, range(65))
                if isinstance(node, ast.Constant) and isinstance(node.value, str):
                    self.assertNotIn("%", node.value)

    def test_is_stands_beside_none_true_false(self):
        for path, text, tree in self.each():
            for node in ast.walk(tree):
                if isinstance(node, ast.Compare):
                    for deed, thing in zip(node.ops, node.comparators):
                        if isinstance(deed, (ast.Is, ast.IsNot)):
                            self.assertIsInstance(thing, ast.Constant)
                            self.assertIn(thing.value, (None, True, False))

    def test_functions_and_classes_are_plain(self):
        for path, text, tree in self.each():
            for node in ast.walk(tree):
                if isinstance(node, ast.FunctionDef):
                    self.assertFalse(node.decorator_list or node.args.vararg or node.args.kwarg or node.args.kwonlyargs)
                if isinstance(node, ast.ClassDef):
                    self.assertIn(node, tree.body)
                    self.assertFalse(node.decorator_list or node.keywords)
                    self.assertLessEqual(len(node.bases), 1)
                    for part in node.body:
                        self.assertIsInstance(part, (ast.FunctionDef, ast.Pass))

    def test_methods_and_values_of_objects(self):
        pythons = {name for kind in (str, int, list, tuple, dict, set, bytes) for name in dir(kind)}
        methods = own_methods()
        values = set()
        for path, text, tree in self.each():
            for node in ast.walk(tree):
                if isinstance(node, ast.Attribute) and isinstance(node.ctx, ast.Store):
                    self.assertIsInstance(node.value, ast.Name)
                    values.add(node.attr)
        self.assertFalse(methods & values)
        self.assertLessEqual((methods | values) & pythons, {"__init__"})

    def test_lists_and_dicts_of_a_files_top_are_only_read(self):
        for path, text, tree in self.each():
            kept = {
                node.targets[0].id for node in tree.body
                if isinstance(node, ast.Assign) and isinstance(node.value, (ast.List, ast.Dict))
            }
            for node, parent in with_parents(tree):
                if isinstance(node, (ast.List, ast.Dict)) and parent in tree.body:
                    self.assertFalse([part for part in ast.walk(node)
                                      if part is not node and isinstance(part, (ast.List, ast.Dict, ast.Set))])
                if isinstance(node, ast.Name) and node.id in kept and isinstance(node.ctx, ast.Load):
                    self.assertIsInstance(parent, (ast.Subscript, ast.Compare), node.lineno)
                    if isinstance(parent, ast.Subscript):
                        self.assertIsInstance(parent.ctx, ast.Load)

    def test_imports_come_from_the_file_that_defines_the_name(self):
        for path, text, tree in self.each():
            for node in ast.walk(tree):
                if isinstance(node, ast.ImportFrom):
                    self.assertIn(node, tree.body)
                    self.assertEqual(node.level, 0)
                    folder, _, name = node.module.partition(".")
                    self.assertEqual(folder, "lotdraw")
                    source = ast.parse((PACKAGE / f"{name}.py").read_text())
                    there = {part.name for part in source.body if isinstance(part, (ast.FunctionDef, ast.ClassDef))}
                    there.update(names_bound(ast.Module(
                        [part for part in source.body if isinstance(part, ast.Assign)], [])))
                    self.assertLessEqual({part.name for part in node.names}, there)
                    self.assertTrue(all(part.asname is None for part in node.names))

    def test_names(self):
        for path, text, tree in self.each():
            tops = [part.name for part in tree.body if isinstance(part, (ast.FunctionDef, ast.ClassDef))]
            drawn = [part.name for node in tree.body if isinstance(node, ast.ImportFrom) for part in node.names]
            values = [node.targets[0].id for node in tree.body if isinstance(node, ast.Assign)]
            self.assertEqual(len(set(tops + drawn + values)), len(tops + drawn + values))
            for name in tops + drawn + list(names_bound(tree)):
                self.assertRegex(name, r"^[A-Za-z][A-Za-z0-9_]*$")
                self.assertNotIn(name, dir(builtins))
                self.assertNotIn(name, UNUSED)
            bound = set(names_bound(tree)) - set(values)
            self.assertFalse(bound & set(tops + drawn))

    def test_names_of_pythons_own(self):
        methods = METHODS | own_methods()
        for path, text, tree in self.each():
            for node in ast.walk(tree):
                if isinstance(node, ast.Name) and node.id in dir(builtins):
                    self.assertIn(node.id, OWN_NAMES)
                if isinstance(node, ast.Attribute):
                    self.assertNotIn(node.attr, UNUSED)
                if isinstance(node, ast.Call) and isinstance(node.func, ast.Attribute):
                    self.assertIn(node.func.attr, methods)

    def test_what_is_walked_at_once_is_not_kept(self):
        for path, text, tree in self.each():
            for node, parent in with_parents(tree):
                if called(node) in WALKED:
                    if isinstance(parent, (ast.For, ast.comprehension)):
                        self.assertIs(parent.iter, node)
                    else:
                        self.assertIn(called(parent), WALKERS, node.lineno)
                        self.assertIn(node, parent.args)

    def test_sets_are_not_kept_and_not_walked(self):
        for path, text, tree in self.each():
            for node, parent in with_parents(tree):
                if isinstance(node, ast.Set) or called(node) in ("set", "frozenset"):
                    if not isinstance(parent, ast.Compare):
                        self.assertIn(called(parent), ("sorted", "len"), node.lineno)
                        self.assertFalse(parent.keywords)

    def test_keywords_at_names_of_pythons_own(self):
        for path, text, tree in self.each():
            for node in ast.walk(tree):
                if called(node) in OWN_NAMES | METHODS:
                    there = {keyword.arg for keyword in node.keywords}
                    self.assertLessEqual(there, KEYWORDS.get(called(node), set()), node.lineno)

    def test_no_two_files_draw_from_one_another(self):
        drawn = {}
        for path, text, tree in self.each():
            drawn[path.stem] = {
                node.module.partition(".")[2] for node in tree.body if isinstance(node, ast.ImportFrom)}
        while drawn:
            free = [name for name, others in drawn.items() if not others & set(drawn)]
            self.assertTrue(free, drawn)
            for name in free:
                drawn.pop(name)


if __name__ == "__main__":
    unittest.main()
