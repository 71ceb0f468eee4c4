"""The rules of LANGUAGE.md that a look at the files can tell, L1 to L28, somewhat narrower than they are."""

import ast
import builtins
import doctest
import re
import unittest
import warnings
from pathlib import Path

ROOT = Path(__file__).resolve().parent.parent
PACKAGE = ROOT / "hiddenties"
FILES = sorted(PACKAGE.glob("*.py"))
LIBRARY = {"math": ("gcd", "lcm", "isqrt", "comb", "perm", "factorial")}
BUILTINS = (
    "len range enumerate zip min max sum abs sorted reversed int str bool list tuple dict set isinstance repr any all "
    "divmod ValueError TypeError KeyError IndexError"
).split()
METHODS = (
    "append clear copy count endswith extend find get index insert isalpha isdigit items join keys lower lstrip "
    "partition pop remove replace reverse rfind rstrip setdefault split startswith strip update upper values"
).split()
LAZY = ("zip", "enumerate", "reversed", "range", "items", "keys", "values")
TAKERS = ("list", "tuple", "dict", "sorted", "sum", "any", "all", "enumerate", "zip", "min", "max")
STATEMENTS = (
    ast.FunctionDef, ast.ClassDef, ast.Return, ast.Assign, ast.For, ast.While, ast.If, ast.Raise, ast.Expr, ast.Pass,
    ast.Break, ast.Continue, ast.ImportFrom, ast.With, ast.Try,
)
DUNDERS = ("__init__", "__len__", "__bool__", "__contains__", "__enter__", "__exit__")
# What this package does without, though the rules would let some of it stand under conditions.
SHUNNED = (
    ast.GeneratorExp, ast.Lambda, ast.FormattedValue, ast.NamedExpr, ast.Starred, ast.SetComp, ast.Set, ast.Yield,
    ast.YieldFrom, ast.Await, ast.Div, ast.MatMult, ast.Pow, ast.Mod, ast.arg,
)
NOWHERE = ("register", "mro", "elements", "open", "input", "law", "version_info", "with_traceback", "add_note")
NO_NAMES = (
    "attrgetter breakpoint builtins compile copyright credits delattr dir eval exec exit gc getattr globals hasattr "
    "help id importlib license locals methodcaller os quit setattr super type vars sys __name__"
).split()
WORDS = (
    "type typing typing_extensions enum Enum IntEnum StrEnum Flag IntFlag Generic Protocol ABC ABCMeta namedtuple "
    "NamedTuple TypedDict TYPE_CHECKING abstractmethod _wall _WallAttr"
).split()


def tree_of(path):
    return ast.parse(path.read_text("utf-8"))


def linked(tree):
    """All nodes of a tree, each with the node that holds it."""
    return [(child, node) for node in ast.walk(tree) for child in ast.iter_child_nodes(node)]


def docstrings_of(tree):
    kinds = (ast.Module, ast.FunctionDef, ast.ClassDef)
    found = [node.body[0] for node in ast.walk(tree) if isinstance(node, kinds) and node.body]
    return [
        node.value for node in found
        if isinstance(node, ast.Expr) and isinstance(node.value, ast.Constant) and isinstance(node.value.value, str)
    ]


def names_given(tree):
    """All names that a file gives to something."""
    found = []
    for node in ast.walk(tree):
        if isinstance(node, (ast.FunctionDef, ast.ClassDef)):
            found.append(node.name)
        elif isinstance(node, ast.arg):
            found.append(node.arg)
        elif isinstance(node, ast.Name) and isinstance(node.ctx, ast.Store):
            found.append(node.id)
        elif isinstance(node, ast.ImportFrom):
            found.extend(name.name for name in node.names)
    return found


def classes_of():
    """The classes of the package that are no errors."""
    trees = [tree_of(path) for path in FILES if path.stem != "errors"]
    return [node for tree in trees for node in tree.body if isinstance(node, ast.ClassDef)]


def own_methods():
    """The methods of these classes."""
    found = [node.name for part in classes_of() for node in part.body if isinstance(node, ast.FunctionDef)]
    return [name for name in found if name not in DUNDERS]


def is_property(node):
    """Whether a function is one of a class that is read like an attribute."""
    return [getattr(part, "id", None) for part in node.decorator_list] == ["property"]


def imports_of(tree):
    return [node for node in ast.walk(tree) if isinstance(node, (ast.Import, ast.ImportFrom))]


class FilesTest(unittest.TestCase):
    def test_folder(self):
        self.assertTrue((PACKAGE / "__init__.py").is_file())
        for path in PACKAGE.iterdir():
            if path.name != "__pycache__":
                self.assertRegex(path.name, r"^[a-z_][a-z0-9_]*\.py$")
                self.assertNotIn(path.stem, dir(builtins))

    def test_characters_and_sizes(self):
        for path in FILES:
            text = path.read_bytes().decode("ascii")
            self.assertRegex(text, r"^[\n -~]*$", path)
            lines = text.split("\n")
            self.assertLessEqual(len(lines), 400, path)
            self.assertLessEqual(max(len(line) for line in lines), 120, path)

    def test_words(self):
        for path in FILES:
            tree, text = tree_of(path), path.read_text("utf-8")
            for node in docstrings_of(tree):
                text = text.replace(node.value, "")
            text = re.sub(r"#.*", "", text)
            self.assertFalse(set(WORDS) & set(re.findall(r"\w+", text)), path)

    def test_no_warnings(self):
        with warnings.catch_warnings():
            warnings.simplefilter("error")
            for path in FILES:
                compile(path.read_text("utf-8"), str(path), "exec")

    def test_readme(self):
        text = (ROOT / "README.md").read_text("utf-8").replace("```", "")
        test = doctest.DocTestParser().get_doctest(text, {}, "README.md", None, None)
        result = doctest.DocTestRunner().run(test)
        self.assertEqual(result.failed, 0)
        self.assertGreater(result.attempted, 5)


class ImportsTest(unittest.TestCase):
    def test_forms(self):
        for path in FILES:
            tree = tree_of(path)
            for node in imports_of(tree):
                self.assertIsInstance(node, ast.ImportFrom, path)
                self.assertIn(node, tree.body, path)
                for name in node.names:
                    self.assertIsNone(name.asname)
                    self.check_import(node, name.name)

    def check_import(self, node, name):
        self.assertEqual(node.level, 0)
        if node.module in LIBRARY:
            self.assertIn(name, LIBRARY[node.module])
            return
        folder, stem = node.module.split(".")
        self.assertEqual(folder, "hiddenties")
        homes = tree_of(PACKAGE / (stem + ".py")).body
        told = [part.name for part in homes if isinstance(part, (ast.FunctionDef, ast.ClassDef))]
        told += [target.id for part in homes if isinstance(part, ast.Assign) for target in part.targets]
        self.assertIn(name, told, stem)

    def test_no_rings(self):
        found = {
            path.stem: {
                node.module.split(".")[1] for node in imports_of(tree_of(path)) if node.module.startswith("hiddenties.")
            } for path in FILES
        }
        while found:
            free = [stem for stem, needed in found.items() if not needed & set(found)]
            self.assertTrue(free, found)
            for stem in free:
                del found[stem]

    def test_imports_are_used_and_not_hidden(self):
        for path in FILES:
            tree = tree_of(path)
            told = [name.name for node in imports_of(tree) for name in node.names]
            self.assertEqual(len(told), len(set(told)), path)
            used = [node.id for node in ast.walk(tree) if isinstance(node, ast.Name)]
            for name in told:
                self.assertIn(name, used, path)
                self.assertEqual(names_given(tree).count(name), 1, (path, name))


class NamesTest(unittest.TestCase):
    def test_names(self):
        for path in FILES:
            for name in names_given(tree_of(path)):
                if name in DUNDERS or name == "_":
                    continue
                self.assertRegex(name, r"^_?[A-Za-z][A-Za-z0-9_]*$")
                self.assertNotIn(name, dir(builtins), path)
                self.assertNotIn(name, NOWHERE + tuple(NO_NAMES), path)

    def test_module_level(self):
        for path in FILES:
            tree, bound = tree_of(path), []
            for node in tree.body[1:]:
                self.assertIsInstance(node, (ast.ImportFrom, ast.FunctionDef, ast.ClassDef, ast.Assign), path)
                if isinstance(node, ast.Assign):
                    self.check_table(node.value, bound)
                    bound.extend(target.id for target in node.targets)
                elif not isinstance(node, ast.ImportFrom):
                    bound.append(node.name)
            self.assertEqual(len(bound), len(set(bound)), path)
            self.assertIsNotNone(ast.get_docstring(tree), path)

    def check_table(self, value, bound):
        """Plain values, and functions that are defined above, and no list or dict within another value."""
        for node, holder in linked(value):
            self.assertNotIsInstance(node, (ast.List, ast.Dict, ast.Set))
            if isinstance(node, ast.Name):
                self.assertIn(node.id, bound)
            else:
                self.assertIsInstance(node, (ast.Constant, ast.Tuple, ast.Load, ast.UnaryOp, ast.USub))


class ClassesTest(unittest.TestCase):
    def test_classes(self):
        """Plain classes: a docstring, and methods with other names than those of attributes and of Python's values."""
        attributes, methods = [], own_methods()
        for part in classes_of():
            self.assertEqual((part.bases, part.keywords, part.decorator_list), ([], [], []))
            self.assertIsNotNone(ast.get_docstring(part))
            for node in part.body[1:]:
                self.assertIsInstance(node, ast.FunctionDef)
                self.assertEqual(node.args.args[0].arg, "self")
                self.assertTrue(node.name in DUNDERS or not node.name.startswith("__"))
            attributes += [
                node.attr for node in ast.walk(part)
                if isinstance(node, ast.Attribute) and isinstance(node.ctx, ast.Store)
            ]
        self.assertEqual(len(methods), len(set(methods)))
        self.assertFalse(set(methods) & set(attributes))
        for name in methods + attributes:
            for kind in (str, int, list, tuple, dict, set, bytes):
                self.assertNotIn(name, dir(kind))
            self.assertNotIn(name, NOWHERE + tuple(NO_NAMES))

    def test_double_underscore_methods_and_properties(self):
        """They change nothing, are short, and call nothing that they hold."""
        for part in classes_of():
            for node in part.body[1:]:
                if is_property(node) or node.name in ("__len__", "__bool__", "__contains__"):
                    statements = [row for row in node.body if not isinstance(row, ast.Expr)]
                    self.assertEqual([type(row) for row in statements], [ast.Return], node.name)
                    calls = [row.func for row in ast.walk(node) if isinstance(row, ast.Call)]
                    self.assertTrue(all(isinstance(call, ast.Name) for call in calls), node.name)

    def test_exits(self):
        """The rows of `__exit__` assign attributes and ask whether there was an error, and do nothing else."""
        for part in classes_of():
            for node in part.body[1:]:
                if node.name == "__exit__":
                    self.assertEqual([told.arg for told in node.args.args], ["self", "kind", "value", "trace"])
                    for row in ast.walk(node):
                        self.assertNotIsInstance(row, (ast.Call, ast.BinOp, ast.Subscript, ast.BoolOp, ast.Return))
                        if isinstance(row, ast.If):
                            self.assertEqual(ast.unparse(row.test), "kind is not None")
                        if isinstance(row, ast.Assign):
                            self.assertIsInstance(row.value, ast.Attribute)
                    read = [row.id for row in ast.walk(node) if isinstance(row, ast.Name)]
                    self.assertFalse({"value", "trace"} & set(read))


class CodeTest(unittest.TestCase):
    def test_functions(self):
        for path in FILES:
            for node in ast.walk(tree_of(path)):
                if isinstance(node, ast.FunctionDef):
                    self.assertLessEqual(node.end_lineno - node.lineno + 1, 40, (path, node.name))
                    self.assertTrue(node.decorator_list == [] or is_property(node))
                    told = node.args
                    self.assertFalse(told.defaults or told.kwonlyargs or told.vararg or told.kwarg or told.posonlyargs)
                    inner = [part for part in ast.walk(node) if isinstance(part, ast.FunctionDef)]
                    self.assertEqual(inner, [node], path)

    def test_statements(self):
        for path in FILES:
            for node in ast.walk(tree_of(path)):
                if isinstance(node, ast.stmt):
                    self.assertIsInstance(node, STATEMENTS, (path, node.lineno))

    def test_expressions(self):
        for path in FILES:
            tree = tree_of(path)
            for node, holder in linked(tree):
                about = (path, getattr(node, "lineno", None))
                if isinstance(node, SHUNNED):
                    plain = isinstance(node, ast.arg) and node.annotation is None
                    key = isinstance(node, ast.Lambda) and isinstance(holder, ast.keyword) and holder.arg == "key"
                    brace = isinstance(node, ast.FormattedValue) and node.conversion == -1 and node.format_spec is None
                    self.assertTrue(plain or key or brace, about)
                if isinstance(node, ast.Try):
                    self.check_try(node, about)
                if isinstance(node, ast.Constant) and node not in docstrings_of(tree):
                    self.check_literal(node.value, about)
                if isinstance(node, ast.Compare):
                    for sign, other in zip(node.ops, node.comparators):
                        if isinstance(sign, (ast.Is, ast.IsNot)):
                            self.assertTrue(isinstance(other, ast.Constant) and other.value is None, about)

    def check_try(self, node, about):
        """Own errors alone are caught, by one handler, that does not keep them."""
        self.assertEqual((len(node.handlers), node.orelse, node.finalbody), (1, [], []), about)
        self.assertEqual((node.handlers[0].type.id, node.handlers[0].name), ("TieError", None), about)

    def check_literal(self, value, about):
        self.assertIn(value.__class__.__name__, ("int", "str", "bool", "NoneType"), about)
        if isinstance(value, str):
            self.assertNotIn("%", value, about)
            self.assertNotIn("\\", value, about)

    def test_builtins_and_methods(self):
        for path in FILES:
            for node, holder in linked(tree_of(path)):
                about = (path, getattr(node, "lineno", None))
                if isinstance(node, ast.Name) and isinstance(node.ctx, ast.Load) and node.id in dir(builtins):
                    if isinstance(holder, ast.FunctionDef) and is_property(holder):
                        continue
                    self.assertIn(node.id, BUILTINS, about)
                    kind = isinstance(holder, ast.ClassDef) or node.id in ("int", "str", "tuple", "bool", "ValueError")
                    self.assertTrue(kind or isinstance(holder, ast.Call) and holder.func is node, about)
                if isinstance(node, ast.Call) and isinstance(node.func, ast.Attribute):
                    base = isinstance(node.func.value, ast.Name) and node.func.value.id == "TieError"
                    known = METHODS + own_methods()
                    self.assertTrue(base and node.func.attr == "__init__" or node.func.attr in known, about)

    def test_what_is_iterated_at_once(self):
        for path in FILES:
            for node, holder in linked(tree_of(path)):
                word = called(node)
                if word in LAZY and not (word == "range" and isinstance(holder, ast.Assign)):
                    loop = isinstance(holder, (ast.For, ast.comprehension)) and holder.iter is node
                    taken = called(holder) in TAKERS or called(holder) == "reversed" and word == "range"
                    self.assertTrue(loop or taken, (path, node.lineno))
                if word == "set":
                    self.assertEqual(called(holder), "len", (path, node.lineno))

    def test_raises(self):
        for path in FILES:
            for node in ast.walk(tree_of(path)):
                if isinstance(node, ast.Raise):
                    self.assertIsInstance(node.exc, ast.Call, (path, node.lineno))
                    self.assertIsInstance(node.exc.func, ast.Name)
                    self.assertFalse(node.exc.keywords)


def called(node):
    """The bare name or the name of the method that a call calls; None."""
    if not isinstance(node, ast.Call):
        return None
    return node.func.id if isinstance(node.func, ast.Name) else getattr(node.func, "attr", None)


if __name__ == "__main__":
    unittest.main()
