"""The form of the package: some of the rules of ../shared/LANGUAGE.md, by far not all of them.

It also stands for point 2's last words: nothing here uses a clock, chance or files, since nothing from
outside of the package is imported and no built-in name beyond the listed ones is used.
"""

import ast
import builtins
import pathlib
import re
import unittest

PACKAGE = pathlib.Path(__file__).resolve().parent.parent / "stripmill"

STATEMENTS = "FunctionDef ClassDef ImportFrom Assign AugAssign If While For Return Break Continue Pass Raise Try Expr"
PARTS = "Module arguments arg alias ExceptHandler keyword comprehension Load Store Slice"
EXPRESSIONS = ("Constant Name List Tuple Dict Set BinOp UnaryOp BoolOp Compare IfExp Call Attribute Subscript ListComp"
               " JoinedStr FormattedValue Lambda")
SIGNS = ("Add Sub Mult FloorDiv Mod Pow BitAnd BitOr BitXor LShift RShift Invert USub UAdd Not And Or"
         " Eq NotEq Lt LtE Gt GtE Is IsNot In NotIn")
NODES = set((STATEMENTS + " " + PARTS + " " + EXPRESSIONS + " " + SIGNS).split())

BUILT_IN = set("""len range enumerate zip min max sum abs sorted reversed int str bool list tuple dict set frozenset
    isinstance ord repr any all divmod Exception ValueError TypeError KeyError IndexError LookupError
    ZeroDivisionError ArithmeticError OverflowError RuntimeError NotImplementedError AttributeError
    StopIteration""".split())
METHODS = set("""append clear copy count endswith extend find get index insert isalnum isalpha isdigit islower isspace
    isupper items join keys ljust lower lstrip partition pop remove replace reverse rfind rjust rpartition rsplit
    rstrip setdefault split splitlines startswith strip update upper values zfill bit_length""".split())
SPECIAL = {"__init__", "__eq__", "__repr__", "__str__", "__len__"}
WORDS = set("""type typing typing_extensions enum Enum IntEnum StrEnum Flag IntFlag Generic Protocol ABC ABCMeta
    namedtuple NamedTuple TypedDict TYPE_CHECKING abstractmethod""".split())
WITHIN_WORDS = ("dataclass", "overload", "contextmanager")


def files():
    return sorted(path for path in PACKAGE.iterdir() if path.name != "__pycache__")


def trees():
    return [(path.name, ast.parse(path.read_text("ascii"))) for path in files()]


def nodes(kind):
    return [(name, node) for name, tree in trees() for node in ast.walk(tree) if isinstance(node, kind)]


class Form(unittest.TestCase):

    def test_files(self):
        self.assertIn("__init__.py", [path.name for path in files()])
        for path in files():
            self.assertRegex(path.name, r"\A(__init__|__main__|[a-z][a-z0-9_]*)\.py\Z")
            self.assertFalse(hasattr(builtins, path.stem) and not path.stem.startswith("__"), path.name)

    def test_sizes_and_signs(self):
        for path in files():
            text = path.read_text("ascii")
            self.assertRegex(text, r"\A[ -~\n]*\Z", path.name)
            rows = text.split("\n")
            self.assertLessEqual(len(rows), 400, path.name)
            self.assertLessEqual(max(len(row) for row in rows), 120, path.name)
        for name, node in nodes((ast.FunctionDef, ast.Lambda)):
            self.assertLessEqual(node.end_lineno - node.lineno + 1, 40, (name, node.lineno))

    def test_words_that_stand_nowhere(self):
        for path in files():
            text = path.read_text("ascii")
            self.assertEqual(WORDS & set(re.findall(r"\w+", text)), set(), path.name)
            self.assertEqual([word for word in WITHIN_WORDS if word in text], [], path.name)

    def test_kinds_of_statements_and_expressions(self):
        for name, node in nodes(ast.AST):
            where = (name, getattr(node, "lineno", None))
            self.assertIn(type(node).__name__, NODES, where)
            if isinstance(node, (ast.For, ast.While)):
                self.assertEqual(node.orelse, [], where)
            if isinstance(node, ast.Try):
                self.assertEqual(node.finalbody, [], where)
            if isinstance(node, ast.Assign):
                self.assertEqual(len(node.targets), 1, where)
            if isinstance(node, ast.ListComp):
                self.assertTrue(len(node.generators) == 1 and len(node.generators[0].ifs) <= 1, where)
            if isinstance(node, ast.Constant):
                self.assertTrue(node.value is None or type(node.value) in (int, str, bool), where)
            if isinstance(node, (ast.FunctionDef, ast.ClassDef)):
                self.assertEqual(node.decorator_list, [], where)

    def test_imports_are_the_packages_own(self):
        own = {path.stem for path in files()}
        for name, node in nodes(ast.ImportFrom):
            self.assertEqual(node.level, 0, name)
            package, dot, module = node.module.partition(".")
            self.assertEqual((package, dot, module in own - {"__main__", "__init__"}), ("stripmill", ".", True), name)
            self.assertNotIn("*", [alias.name for alias in node.names], name)

    def test_names(self):
        bound = [(name, node.id) for name, node in nodes(ast.Name) if isinstance(node.ctx, ast.Store)]
        bound += [(name, node.arg) for name, node in nodes(ast.arg)]
        bound += [(name, node.name) for name, node in nodes((ast.FunctionDef, ast.ClassDef))
                  if node.name not in SPECIAL]
        for name, word in bound:
            self.assertRegex(word, r"\A[A-Za-z][A-Za-z0-9_]*\Z", name)
        for name, node in nodes((ast.Name, ast.arg)):
            word = node.id if isinstance(node, ast.Name) else node.arg
            if hasattr(builtins, word):
                self.assertIn(word, BUILT_IN, (name, node.lineno))
                self.assertIsInstance(getattr(node, "ctx", None), ast.Load, (name, node.lineno))

    def test_only_calls_stand_by_themselves(self):
        for name, tree in trees():
            self.assertIsNotNone(ast.get_docstring(tree), name)
            for node in ast.walk(tree):
                if isinstance(node, ast.Expr) and node is not tree.body[0]:
                    self.assertIsInstance(node.value, ast.Call, (name, node.lineno))

    def test_no_local_is_called_like_a_class_or_an_import_of_its_file(self):
        for name, tree in trees():
            taken = {node.name for node in tree.body if isinstance(node, ast.ClassDef)}
            taken |= {alias.name for node in tree.body if isinstance(node, ast.ImportFrom) for alias in node.names}
            for node in ast.walk(tree):
                if isinstance(node, ast.arg):
                    self.assertNotIn(node.arg, taken, (name, node.lineno))
                if isinstance(node, ast.Name) and isinstance(node.ctx, ast.Store):
                    self.assertNotIn(node.id, taken, (name, node.lineno))

    def test_names_are_drawn_from_the_file_that_defines_them(self):
        defined = {}
        for name, tree in trees():
            defined[name] = {node.name for node in tree.body if isinstance(node, (ast.FunctionDef, ast.ClassDef))}
            defined[name] |= {node.targets[0].id for node in tree.body if isinstance(node, ast.Assign)}
        for name, node in nodes(ast.ImportFrom):
            for alias in node.names:
                self.assertIn(alias.name, defined[node.module.partition(".")[2] + ".py"], (name, node.lineno))

    def test_no_two_files_draw_from_one_another(self):
        draws = {name: set() for name, tree in trees()}
        for name, node in nodes(ast.ImportFrom):
            draws[name].add(node.module.partition(".")[2] + ".py")
        while draws:
            free = [name for name, drawn in draws.items() if not drawn & set(draws)]
            self.assertNotEqual(free, [], sorted(draws))
            for name in free:
                del draws[name]

    def test_no_name_is_a_method_and_a_value(self):
        methods = {node.name for name, top in nodes(ast.ClassDef) for node in top.body
                   if isinstance(node, ast.FunctionDef)}
        values = {node.attr for name, node in nodes(ast.Attribute) if isinstance(node.ctx, ast.Store)}
        self.assertEqual(methods & values, set())

    def test_methods(self):
        own = {node.name for name, node in nodes(ast.FunctionDef)}
        for name, node in nodes(ast.Call):
            if isinstance(node.func, ast.Attribute):
                self.assertIn(node.func.attr, METHODS | own | SPECIAL, (name, node.lineno))


if __name__ == "__main__":
    unittest.main()
