"""How the program is written: those rules of the language that a look at each file can tell."""

import ast
import builtins
import pathlib
import unittest

ROOT = pathlib.Path(__file__).resolve().parent.parent
FILES = sorted((ROOT / "deedline").rglob("*.py"))
BUILTINS = set(
    "len range enumerate zip min max sum abs sorted reversed int str bool bytes list tuple dict set frozenset "
    "isinstance ord repr any all divmod iter next map property classmethod staticmethod super NotImplemented "
    "Exception ValueError TypeError KeyError IndexError LookupError ZeroDivisionError ArithmeticError "
    "OverflowError RuntimeError NotImplementedError AttributeError StopIteration object".split())
METHODS = set(
    "append clear copy count endswith extend find get index insert isalnum isalpha isdigit islower isspace isupper "
    "items join keys ljust lower lstrip partition pop remove replace reverse rfind rjust rpartition rsplit rstrip "
    "setdefault split splitlines startswith strip update upper values zfill bit_length title capitalize swapcase "
    "casefold center expandtabs removeprefix removesuffix rindex isascii isdecimal isnumeric istitle isidentifier "
    "isprintable translate sort encode decode add discard hex from_bytes".split())
# An interactive example leaves a "_" among the builtins.
ALL_BUILTINS = set(dir(builtins)) - {"_"}
FOREIGN = {name for kind in (str, int, list, dict, set, bytes, tuple) for name in dir(kind)}
OWN_DOUBLE = set("__init__ __eq__ __repr__ __str__ __len__ __enter__ __exit__ __call__ __iter__ __contains__".split())
BARRED = set(
    "register mro elements open input law version_info with_traceback add_note attrgetter breakpoint builtins compile "
    "copyright credits delattr dir eval exec exit gc getattr globals hasattr help id importlib license locals "
    "methodcaller os quit setattr type vars".split())
UNSAID = set("type typing enum Enum Flag Generic Protocol ABC namedtuple dataclass overload contextmanager abstractmethod".split())
NODES_BARRED = (ast.Global, ast.AsyncFunctionDef, ast.AsyncFor, ast.AsyncWith, ast.Await, ast.Div, ast.MatMult,
                ast.Import, ast.TryStar)


def trees():
    return [(path, ast.parse(path.read_text())) for path in FILES]


def defined(tree):
    """The names that a file defines itself."""
    names = {node.name for node in tree.body if isinstance(node, (ast.FunctionDef, ast.ClassDef))}
    return names | {node.targets[0].id for node in tree.body if isinstance(node, ast.Assign)}


def bound(tree):
    """All names that are given a meaning somewhere, but those of methods and attributes."""
    methods = {id(node) for kind in ast.walk(tree) if isinstance(kind, ast.ClassDef) for node in kind.body}
    for node in ast.walk(tree):
        if isinstance(node, ast.Name) and not isinstance(node.ctx, ast.Load):
            yield node.id
        elif isinstance(node, ast.arg):
            yield node.arg
        elif isinstance(node, ast.ClassDef) or isinstance(node, ast.FunctionDef) and id(node) not in methods:
            yield node.name
        elif isinstance(node, ast.ImportFrom):
            yield from (name.asname or name.name for name in node.names)


class Language(unittest.TestCase):
    def test_files(self):
        self.assertTrue(FILES)
        for path in (ROOT / "deedline").rglob("*"):
            if "__pycache__" not in path.parts:
                self.assertTrue(path.is_dir() or path.suffix == ".py", path)
                self.assertTrue(not path.is_dir() or (path / "__init__.py").exists(), path)
                self.assertEqual(path.name, path.name.lower())
                self.assertNotIn(path.stem.strip("_"), ALL_BUILTINS)
                self.assertFalse(path.suffix and path.with_suffix("").is_dir(), path)

    def test_sizes_and_characters(self):
        for path, tree in trees():
            text = path.read_text()
            self.assertLessEqual(len(text.splitlines()), 399, path)
            self.assertLessEqual(max([len(line) for line in text.splitlines()], default=0), 120, path)
            self.assertTrue(all(sign == "\n" or " " <= sign <= "~" for sign in text), path)
            for node in ast.walk(tree):
                if isinstance(node, ast.FunctionDef):
                    self.assertLessEqual(node.end_lineno - node.lineno + 1, 40, (path, node.name))

    def test_imports(self):
        known = dict(trees())
        for path, tree in known.items():
            for node in ast.walk(tree):
                if isinstance(node, ast.ImportFrom):
                    self.assertIn(node, tree.body)
                    self.assertEqual(node.level, 0)
                    self.assertTrue(node.module.startswith("deedline."), (path, node.module))
                    other = ROOT / (node.module.replace(".", "/") + ".py")
                    used = {one.id for one in ast.walk(tree) if isinstance(one, ast.Name)}
                    for name in node.names:
                        self.assertIn(name.name, defined(known[other]), path)
                        self.assertIn(name.asname or name.name, used, path)

    def test_module_level(self):
        for path, tree in trees():
            for node in tree.body:
                is_text = isinstance(node, ast.Expr) and isinstance(node.value, ast.Constant)
                kinds = (ast.ImportFrom, ast.FunctionDef, ast.ClassDef, ast.Assign)
                self.assertTrue(is_text or isinstance(node, kinds), (path, node.lineno))
            names = [node.name for node in tree.body if isinstance(node, (ast.FunctionDef, ast.ClassDef))]
            self.assertEqual(len(names), len(set(names)), path)

    def test_names(self):
        for path, tree in trees():
            here = {name.asname or name.name for node in tree.body if isinstance(node, ast.ImportFrom)
                    for name in node.names} | {node.name for node in tree.body if isinstance(node, ast.ClassDef)}
            names = list(bound(tree))
            for name in names:
                self.assertNotIn(name, ALL_BUILTINS, path)
                self.assertNotIn(name, BARRED, path)
                self.assertFalse(name.startswith("__"), (path, name))
            for name in here:
                self.assertEqual(names.count(name), 1, (path, name))

    def test_what_is_used(self):
        for path, tree in trees():
            for node in ast.walk(tree):
                where = (path, getattr(node, "lineno", 0))
                self.assertNotIsInstance(node, NODES_BARRED, where)
                if isinstance(node, ast.Name) and node.id in ALL_BUILTINS:
                    self.assertIn(node.id, BUILTINS, where)
                if isinstance(node, ast.Name):
                    self.assertFalse(node.id == "_" and isinstance(node.ctx, ast.Load), where)
                if isinstance(node, ast.Attribute) and node.attr in FOREIGN:
                    self.assertIn(node.attr, METHODS, where)
                if isinstance(node, ast.FunctionDef) and node.name.startswith("__"):
                    self.assertIn(node.name, OWN_DOUBLE, where)
                if isinstance(node, ast.Constant):
                    self.assertNotIsInstance(node.value, (float, complex), where)
                    self.assertFalse(isinstance(node.value, str) and "%" in node.value, where)
                if isinstance(node, ast.BinOp) and isinstance(node.op, ast.Pow):
                    self.assertIsInstance(node.right, ast.Constant, where)
                if isinstance(node, ast.Compare) and isinstance(node.ops[0], (ast.Is, ast.IsNot)):
                    self.assertIn(ast.dump(node.comparators[0])[:8], ("Constant",), where)
                if isinstance(node, ast.ExceptHandler):
                    self.assertIsNotNone(node.type, where)

    def test_members(self):
        properties, methods, attributes = set(), set(), set()
        for path, tree in trees():
            for kind in [node for node in ast.walk(tree) if isinstance(node, ast.ClassDef)]:
                functions = [node for node in kind.body if isinstance(node, ast.FunctionDef)]
                here = {node.name for node in functions if is_property(node)}
                own = {node.name for node in functions} - here
                stored = {node.attr for node in ast.walk(kind) if isinstance(node, ast.Attribute) and isinstance(node.ctx, ast.Store)
                          and isinstance(node.value, ast.Name) and node.value.id == "self"}
                self.assertEqual(len(functions), len(here | own), path)
                self.assertFalse(stored & (own | here), (path, kind.name))
                properties, methods, attributes = properties | here, methods | own, attributes | stored
        # A property is told from all else by its name alone.
        self.assertFalse(properties & (methods | attributes | METHODS | FOREIGN))
        self.assertFalse((attributes | methods) & (UNSAID | BARRED))
        self.assertFalse(attributes & {"items", "keys", "values", "pop", "update", "append", "clear", "extend", "insert", "remove",
                                       "reverse", "setdefault", "sort", "args", "encode", "decode", "hex", "fromhex", "format"})

    def test_what_is_made_at_module_level(self):
        for path, tree in trees():
            functions = {node.name for node in tree.body if isinstance(node, ast.FunctionDef)}
            for node in tree.body:
                if isinstance(node, ast.Assign):
                    for part in ast.walk(node.value):
                        self.assertNotIsInstance(part, (ast.Call, ast.ListComp, ast.DictComp, ast.GeneratorExp), (path, node.lineno))
                        self.assertFalse(isinstance(part, ast.Name) and part.id not in functions, (path, node.lineno))

    def test_words_and_loops(self):
        for path, tree in trees():
            imported = {name.asname or name.name for node in tree.body if isinstance(node, ast.ImportFrom) for name in node.names}
            for node in ast.walk(tree):
                where = (path, getattr(node, "lineno", 0))
                self.assertNotIsInstance(node, (ast.GeneratorExp, ast.Yield, ast.YieldFrom, ast.Match, ast.Lambda), where)
                if isinstance(node, ast.Constant) and isinstance(node.value, str):
                    self.assertNotIn(node.value, UNSAID, where)
                if isinstance(node, ast.Raise) and node.exc is not None:
                    self.assertIsInstance(node.exc, ast.Call, where)
                if isinstance(node, ast.FunctionDef):
                    self.assertFalse(imported & {one.arg for one in ast.walk(node) if isinstance(one, ast.arg)}, where)
                if isinstance(node, ast.JoinedStr):
                    self.assertFalse([one for part in node.values if isinstance(part, ast.FormattedValue) for one in ast.walk(part.value)
                                      if isinstance(one, (ast.JoinedStr, ast.Constant))], where)


def is_property(node):
    return any(isinstance(one, ast.Name) and one.id == "property" for one in node.decorator_list)
