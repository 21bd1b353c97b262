"""The rules of the language that can be looked at from outside: what the package may be written with."""

import ast
import builtins
import io
import pathlib
import re
import tokenize
import unittest

PACKAGE = pathlib.Path(__file__).resolve().parent.parent / "drawerways"

BUILTINS = set(
    "len range enumerate zip min max sum abs sorted reversed int str bool bytes list tuple dict set frozenset isinstance "
    "ord repr any all divmod pow Exception ValueError TypeError KeyError IndexError LookupError ZeroDivisionError "
    "ArithmeticError OverflowError RuntimeError NotImplementedError AttributeError".split()
)

METHODS = set(
    "append clear copy count endswith extend find get index insert isalnum isalpha isdigit islower isspace isupper items "
    "join keys ljust lower lstrip partition pop remove replace reverse rfind rjust rpartition rsplit rstrip setdefault "
    "split splitlines startswith strip update upper values zfill bit_length add discard".split()
)

# Statements and expressions that the rules leave out, or that nothing here needs.
BARRED = (
    ast.AsyncFunctionDef, ast.AsyncFor, ast.AsyncWith, ast.Await, ast.Global, ast.Nonlocal, ast.Import, ast.Lambda,
    ast.GeneratorExp, ast.SetComp, ast.Set, ast.Yield, ast.YieldFrom, ast.Starred, ast.NamedExpr, ast.Div, ast.MatMult,
    ast.With, ast.Match, ast.AnnAssign,
)

# Double-underscore methods that classes here have.
DOUBLE = ("__init__", "__len__", "__str__", "__eq__")

WORDS = set(
    "type typing typing_extensions enum Enum IntEnum StrEnum Flag IntFlag Generic Protocol ABC ABCMeta namedtuple "
    "NamedTuple TypedDict TYPE_CHECKING abstractmethod".split()
)

NOWHERE = set("register mro elements open input law version_info with_traceback add_note _wall _WallAttr".split())


def files():
    return sorted(PACKAGE.glob("*.py"))


def parsed():
    return {file: ast.parse(file.read_text()) for file in files()}


def own_methods():
    """The names of all methods of the package, but the double-underscore ones."""
    return {
        part.name for tree in parsed().values() for node in tree.body if isinstance(node, ast.ClassDef)
        for part in node.body if isinstance(part, ast.FunctionDef) and part.name not in DOUBLE
    }


def bound(tree):
    """All names that a file binds anywhere."""
    names = set()
    for node in ast.walk(tree):
        if isinstance(node, ast.Name) and not isinstance(node.ctx, ast.Load):
            names.add(node.id)
        elif isinstance(node, (ast.FunctionDef, ast.ClassDef)):
            names.add(node.name)
        elif isinstance(node, ast.arg):
            names.add(node.arg)
        elif isinstance(node, ast.alias):
            names.add(node.name)
    return names


class Language(unittest.TestCase):
    def test_the_folder(self):
        for path in PACKAGE.iterdir():
            if path.name != "__pycache__":
                self.assertRegex(path.name, r"^[a-z_][a-z0-9_]*\.py$")
        self.assertTrue((PACKAGE / "__init__.py").is_file())

    def test_sizes_and_signs(self):
        for file in files():
            text = file.read_text(encoding="utf-8")
            self.assertTrue(all(sign == "\n" or " " <= sign <= "~" for sign in text), file.name)
            self.assertLessEqual(len(text.splitlines()), 399, file.name)
            for line in text.splitlines():
                self.assertLessEqual(len(line), 120, (file.name, line))
                self.assertEqual(line, line.rstrip(), file.name)
            self.assertTrue(text.endswith("\n") and not text.endswith("\n\n"), file.name)

    def test_functions(self):
        for file, tree in parsed().items():
            for node in ast.walk(tree):
                if isinstance(node, (ast.FunctionDef, ast.ClassDef)):
                    self.assertEqual(node.decorator_list, [], (file.name, node.name))
                    self.assertIsNotNone(ast.get_docstring(node) or node.name == "__init__" or None, node.name)
                if isinstance(node, ast.ClassDef):
                    methods = [part.name for part in node.body if isinstance(part, ast.FunctionDef)]
                    self.assertEqual(len(methods), len(set(methods)), (file.name, node.name))
                if isinstance(node, ast.FunctionDef):
                    self.assertLessEqual(node.end_lineno - node.lineno + 1, 40, (file.name, node.name))
                    self.assertIsNone(node.returns)
                    self.assertIsNone(node.args.vararg or node.args.kwarg)

    def test_module_level(self):
        for file, tree in parsed().items():
            self.assertIsNotNone(ast.get_docstring(tree), file.name)
            for node in tree.body[1:]:
                self.assertIsInstance(node, (ast.ImportFrom, ast.FunctionDef, ast.ClassDef, ast.Assign), file.name)
            kinds = [isinstance(node, ast.ImportFrom) for node in tree.body[1:]]
            self.assertEqual(kinds, sorted(kinds, reverse=True), file.name)

    def test_names_are_bound_once_at_module_level(self):
        for file, tree in parsed().items():
            names = []
            for node in tree.body:
                if isinstance(node, (ast.FunctionDef, ast.ClassDef)):
                    names.append(node.name)
                elif isinstance(node, ast.Assign):
                    names += [target.id for target in node.targets]
                elif isinstance(node, ast.ImportFrom):
                    names += [alias.name for alias in node.names]
            self.assertEqual(len(names), len(set(names)), file.name)

    def test_imports(self):
        trees = {file.stem: tree for file, tree in parsed().items()}
        goes_to = {}
        for stem, tree in trees.items():
            goes_to[stem] = set()
            for node in ast.walk(tree):
                if not isinstance(node, ast.ImportFrom):
                    continue
                self.assertEqual(node.level, 0)
                package, _, module = node.module.partition(".")
                self.assertEqual(package, "drawerways")
                defined = {part.name for part in trees[module].body if isinstance(part, (ast.FunctionDef, ast.ClassDef))}
                defined |= {part.targets[0].id for part in trees[module].body if isinstance(part, ast.Assign)}
                for alias in node.names:
                    self.assertIsNone(alias.asname)
                    self.assertIn(alias.name, defined, (stem, alias.name))
                    used = [part for part in ast.walk(tree) if isinstance(part, ast.Name) and part.id == alias.name]
                    self.assertTrue(used, (stem, alias.name))
                    self.assertTrue(all(isinstance(part.ctx, ast.Load) for part in used), (stem, alias.name))
                goes_to[stem].add(module)
        while goes_to:
            free = [stem for stem, others in goes_to.items() if not others & set(goes_to)]
            self.assertTrue(free, goes_to)
            for stem in free:
                del goes_to[stem]

    def test_locals_are_no_imports(self):
        for file, tree in parsed().items():
            taken = {alias.name for node in tree.body if isinstance(node, ast.ImportFrom) for alias in node.names}
            taken |= {node.name for node in tree.body if isinstance(node, (ast.FunctionDef, ast.ClassDef))}
            for node in tree.body:
                if isinstance(node, ast.FunctionDef):
                    own = bound(node) - {node.name}
                    self.assertEqual(own & taken, set(), (file.name, node.name))

    def test_names(self):
        for file, tree in parsed().items():
            names = bound(tree)
            for name in names:
                self.assertFalse(hasattr(builtins, name) and name not in DOUBLE, (file.name, name))
                self.assertTrue(name in DOUBLE or re.fullmatch(r"_|_?[A-Za-z][A-Za-z0-9_]*", name), name)
                self.assertNotIn(name, NOWHERE)
            for node in ast.walk(tree):
                if isinstance(node, ast.Name) and isinstance(node.ctx, ast.Load):
                    self.assertTrue(node.id in names or node.id in BUILTINS, (file.name, node.id))
                    self.assertNotEqual(node.id, "_", file.name)

    def test_barred(self):
        for file, tree in parsed().items():
            for node in ast.walk(tree):
                self.assertNotIsInstance(node, BARRED, (file.name, getattr(node, "lineno", None)))
                if isinstance(node, ast.Constant):
                    self.assertNotIsInstance(node.value, (float, complex), file.name)
                if isinstance(node, ast.Compare) and any(isinstance(op, (ast.Is, ast.IsNot)) for op in node.ops):
                    self.assertIsInstance(node.comparators[0], ast.Constant, file.name)
                    self.assertIn(node.comparators[0].value, (None, True, False), file.name)

    def test_methods(self):
        own = own_methods()
        # No method has the name of one of Python's own, so each call tells whose it is.
        self.assertEqual(own & METHODS, set())
        for file, tree in parsed().items():
            for node in ast.walk(tree):
                if isinstance(node, ast.Call) and isinstance(node.func, ast.Attribute) and node.func.attr not in own:
                    self.assertIn(node.func.attr, METHODS, (file.name, node.lineno))
                    self.assertEqual(node.keywords, [], (file.name, node.lineno))

    def test_attributes(self):
        # Each that is read is given by an __init__, and none has a method's name.
        own, given, read = own_methods(), set(), set()
        for tree in parsed().values():
            called = {id(node.func) for node in ast.walk(tree) if isinstance(node, ast.Call)}
            for node in ast.walk(tree):
                if isinstance(node, ast.Attribute) and not isinstance(node.ctx, ast.Load):
                    self.assertEqual(node.value.id, "self")
                    given.add(node.attr)
                elif isinstance(node, ast.Attribute) and id(node) not in called:
                    read.add(node.attr)
        self.assertTrue(read <= given, read - given)
        self.assertEqual(given & (own | METHODS), set())

    def test_refusals_are_caught_by_own_names(self):
        for file, tree in parsed().items():
            for node in ast.walk(tree):
                if isinstance(node, ast.Try):
                    for handler in node.handlers:
                        self.assertIn(handler.type.id, ("NoText",), file.name)
                        self.assertIsNone(handler.name)
                    for part in node.finalbody:
                        # What stands in it can't be refused, and calls nothing of the package.
                        self.assertIsInstance(part, ast.Expr, file.name)
                        self.assertEqual(part.value.func.attr, "append", file.name)

    def test_refusals_are_made_on_the_spot(self):
        for file, tree in parsed().items():
            for node in ast.walk(tree):
                if isinstance(node, ast.Raise):
                    self.assertIsInstance(node.exc, ast.Call, file.name)
                    self.assertIsInstance(node.exc.func, ast.Name, file.name)

    def test_words(self):
        for file in files():
            for token in tokenize.generate_tokens(io.StringIO(file.read_text()).readline):
                if token.type == tokenize.STRING and not token.line.strip().startswith('"""'):
                    self.assertNotIn("%", token.string, file.name)
                    self.assertNotIn("\\", token.string.replace("\\n", ""), file.name)
                    self.assertFalse(set(re.findall(r"\w+", token.string)) & WORDS, (file.name, token.string))
                if token.type == tokenize.NAME:
                    self.assertNotIn(token.string, WORDS | NOWHERE, file.name)


if __name__ == "__main__":
    unittest.main()
