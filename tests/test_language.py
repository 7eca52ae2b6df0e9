"""The files of the package keep to the small language: what can be seen in their text."""

import ast
import builtins
import os
import re
import sys
import unittest

from tests.examples import MODULES

FOLDER = os.path.join(os.path.dirname(os.path.dirname(os.path.abspath(__file__))), "reportalike")
ALLOWED = """len range enumerate zip min max sum abs sorted reversed int str bool list tuple dict set isinstance repr any all
divmod ValueError LookupError""".split()
METHODS = """append clear copy count endswith extend find get index insert isalnum isalpha isdigit islower isspace isupper items
join keys ljust lower lstrip partition pop remove replace reverse rfind rjust rpartition rsplit rstrip setdefault split
splitlines startswith strip update upper values zfill bit_length isascii""".split()
WORDS = """type typing enum Enum IntEnum StrEnum Flag IntFlag Generic Protocol ABC ABCMeta namedtuple NamedTuple TypedDict
abstractmethod dataclass overload contextmanager open input law elements mro register""".split()
ONCE = ("zip", "enumerate", "reversed", "range", "items", "keys", "values")
TAKES = ("list", "tuple", "dict", "sorted", "sum", "min", "max", "any", "all", "enumerate", "zip")


def files():
    return sorted(name for name in os.listdir(FOLDER) if name.endswith(".py"))


def text_of(name):
    with open(os.path.join(FOLDER, name), encoding="utf-8") as file:
        return file.read()


def tree_of(name):
    tree = ast.parse(text_of(name))
    for node in ast.walk(tree):
        for child in ast.iter_child_nodes(node):
            child.parent = node
    return tree


def called(node):
    """The name that a call is by, or None."""
    if isinstance(node, ast.Call):
        return getattr(node.func, "id", None) or getattr(node.func, "attr", None)
    return None


class Language(unittest.TestCase):
    def each(self, *kinds):
        for name in files():
            for node in ast.walk(tree_of(name)):
                if isinstance(node, kinds):
                    yield name, node

    def test_folder(self):
        for name in os.listdir(FOLDER):
            self.assertTrue(name == "__pycache__" or re.fullmatch(r"[a-z_]+\.py", name), name)
            self.assertNotIn(name[:-3], dir(builtins))
        self.assertNotIn("reportalike", sys.stdlib_module_names)

    def test_sizes_and_signs(self):
        for name in files():
            text = text_of(name)
            self.assertTrue(all(32 <= ord(sign) < 127 or sign == "\n" for sign in text), name)
            self.assertTrue(text.endswith("\n"))
            lines = text.splitlines()
            self.assertLess(len(lines), 400, name)
            self.assertTrue(all(len(line) <= 120 for line in lines), name)
        for name, node in self.each(ast.FunctionDef):
            self.assertLessEqual(node.end_lineno - node.lineno + 1, 40, (name, node.name))

    def test_words(self):
        for name in files():
            tree = tree_of(name)
            for node in ast.walk(tree):
                word = getattr(node, "id", getattr(node, "attr", getattr(node, "arg", getattr(node, "name", None))))
                self.assertNotIn(word, WORDS, name)
                if isinstance(node, ast.Constant) and isinstance(node.value, str) and not isinstance(node.parent, ast.Expr):
                    self.assertFalse(set(WORDS) & set(re.findall(r"\w+", node.value)), (name, node.value))
                    self.assertNotIn("%", node.value)

    def test_imports(self):
        needs = {}
        for name in files():
            needs[name] = set()
            tree = tree_of(name)
            for node in ast.walk(tree):
                if isinstance(node, (ast.Import, ast.ImportFrom)):
                    self.assertIsInstance(node, ast.ImportFrom)
                    self.assertIs(node.parent, tree)
                    self.assertTrue(node.level == 0 and node.module.startswith("reportalike."), (name, node.module))
                    other = node.module.split(".")[1] + ".py"
                    own = [one.name for one in tree_of(other).body if isinstance(one, (ast.FunctionDef, ast.ClassDef))]
                    self.assertTrue(all(alias.asname is None and alias.name in own for alias in node.names), (name, other))
                    needs[name].add(other)
        left = dict(needs)
        while left:
            free = [name for name in left if not needs[name] & set(left)]
            self.assertTrue(free, "a ring of imports")
            for name in free:
                del left[name]

    def test_each_file_of_the_interface_needs_only_those_ahead_of_it(self):
        needs = {name: {node.module.split(".")[1] + ".py" for node in tree_of(name).body if isinstance(node, ast.ImportFrom)} for name in files()}
        for at, module in enumerate(MODULES):
            reached, waiting = set(), [module + ".py"]
            while waiting:
                name = waiting.pop()
                waiting.extend(needs[name] - reached)
                reached |= needs[name]
            self.assertFalse({later + ".py" for later in MODULES[at:]} & reached, module)

    def test_imports_are_used(self):
        for name in files():
            tree = tree_of(name)
            used = {node.id for node in ast.walk(tree) if isinstance(node, ast.Name)}
            for node in tree.body:
                if isinstance(node, ast.ImportFrom):
                    for alias in node.names:
                        self.assertIn(alias.name, used, name)

    def test_module_level(self):
        for name in files():
            body = tree_of(name).body
            self.assertIsInstance(body[0], ast.Expr)
            for node in body[1:]:
                self.assertIsInstance(node, (ast.ImportFrom, ast.FunctionDef, ast.ClassDef, ast.Assign), name)

    def test_names(self):
        for name in files():
            tree = tree_of(name)
            barred = {alias.name for node in tree.body if isinstance(node, ast.ImportFrom) for alias in node.names}
            top = [node.name for node in tree.body if isinstance(node, (ast.FunctionDef, ast.ClassDef))]
            self.assertEqual(len(set(top)), len(top))
            self.assertFalse(set(top) & barred)
            for node in ast.walk(tree):
                bound = node.arg if isinstance(node, ast.arg) else None
                if isinstance(node, ast.Name) and isinstance(node.ctx, ast.Store):
                    bound = node.id
                self.assertNotIn(bound, barred | set(top) | set(dir(builtins)), (name, bound))

    def test_builtins_and_methods(self):
        own = {node.name for _, node in self.each(ast.FunctionDef)}
        for name, node in self.each(ast.Name):
            if node.id in dir(builtins):
                self.assertIn(node.id, ALLOWED, name)
        for name, node in self.each(ast.Call):
            if isinstance(node.func, ast.Attribute):
                self.assertIn(node.func.attr, METHODS + sorted(own), name)

    def test_statements_and_expressions(self):
        barred = (ast.AsyncFunctionDef, ast.Global, ast.Nonlocal, ast.GeneratorExp, ast.Lambda, ast.Yield, ast.YieldFrom, ast.Await,
                  ast.Div, ast.Pow, ast.Mod, ast.NamedExpr, ast.AnnAssign, ast.With, ast.Match, ast.JoinedStr)
        for name, node in self.each(*barred):
            self.fail((name, node.lineno, type(node).__name__))
        for name, node in self.each(ast.FunctionDef, ast.ClassDef):
            self.assertFalse(node.decorator_list)
            if isinstance(node, ast.FunctionDef):
                self.assertIsInstance(node.parent, (ast.Module, ast.ClassDef), name)
        for name, node in self.each(ast.Constant):
            self.assertNotIsInstance(node.value, (float, bytes, complex))
        for name, node in self.each(ast.Compare):
            for sign, side in zip(node.ops, node.comparators):
                if isinstance(sign, (ast.Is, ast.IsNot)):
                    self.assertIsInstance(side, ast.Constant)

    def test_only_own_errors_are_caught(self):
        own = {node.name for name, node in self.each(ast.ClassDef) if name == "errors.py"}
        for name, node in self.each(ast.Try):
            self.assertFalse(node.finalbody or node.orelse, name)
            self.assertTrue(all(isinstance(one.type, ast.Name) and one.type.id in own for one in node.handlers), name)
        for name, function in self.each(ast.FunctionDef):
            kept = [one.name for one in ast.walk(function) if isinstance(one, ast.ExceptHandler) and one.name]
            self.assertEqual(len(set(kept)), len(kept), (name, function.name))
            self.assertFalse(set(kept) & (self.stored(function) | {one.arg for one in function.args.args}))

    def test_stars_in_calls_stand_before_names(self):
        for name, node in self.each(ast.Call):
            for argument in node.args:
                self.assertFalse(isinstance(argument, ast.Starred) and not isinstance(argument.value, ast.Name), (name, node.lineno))

    def test_sets_stand_only_where_they_are_sorted_or_counted(self):
        for name, node in self.each(ast.Set, ast.SetComp, ast.Call):
            if isinstance(node, ast.Call) and called(node) != "set":
                continue
            self.assertIn(called(node.parent), ("sorted", "len"), (name, node.lineno))

    def test_iterated_at_once(self):
        for name, node in self.each(ast.Call):
            if called(node) in ONCE:
                loop = isinstance(node.parent, (ast.For, ast.comprehension)) and node.parent.iter is node
                self.assertTrue(loop or called(node.parent) in TAKES, (name, node.lineno))

    def test_methods_and_attributes_have_unlike_names(self):
        for name, node in self.each(ast.ClassDef):
            methods = {one.name for one in node.body if isinstance(one, ast.FunctionDef)}
            stored = {one.attr for one in ast.walk(node) if isinstance(one, ast.Attribute) and isinstance(one.ctx, ast.Store)}
            self.assertFalse(methods & stored, name)

    def test_names_in_a_comprehension_within_another_one(self):
        comprehensions = (ast.ListComp, ast.SetComp, ast.DictComp)
        for name, function in self.each(ast.FunctionDef):
            for outer in ast.walk(function):
                for inner in ast.walk(outer) if isinstance(outer, comprehensions) else ():
                    if inner is outer or not isinstance(inner, comprehensions):
                        continue
                    own = self.stored(inner)
                    arguments = {one.arg for one in ast.walk(function) if isinstance(one, ast.arg)}
                    others = self.stored(function, but=[one for one in ast.walk(function) if isinstance(one, comprehensions)])
                    heads = {one.id for part in outer.generators for one in ast.walk(part.target) if isinstance(one, ast.Name)}
                    self.assertFalse(own & (arguments | others | heads), (name, inner.lineno))

    def stored(self, tree, but=()):
        """The names that are stored in a tree, but not within these parts of it."""
        gone = {id(node) for part in but for node in ast.walk(part)}
        return {node.id for node in ast.walk(tree)
                if isinstance(node, ast.Name) and isinstance(node.ctx, ast.Store) and id(node) not in gone}
