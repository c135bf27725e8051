"""How the program is written: those rules of the language that a look at each file can tell."""

import ast
import builtins
import pathlib
import re
import unittest

from tests.telling import MODIFYING, changing_parts, is_property, modifying_calls

ROOT = pathlib.Path(__file__).resolve().parent.parent
FILES = sorted((ROOT / "deedline").rglob("*.py"))
BUILTINS = set(
    "len range enumerate zip min max sum abs sorted reversed int str bool bytes list tuple dict set frozenset "
    "isinstance ord repr any all divmod iter next map property classmethod staticmethod super NotImplemented "
    "Exception ValueError TypeError KeyError IndexError LookupError ZeroDivisionError ArithmeticError "
    "OverflowError RuntimeError NotImplementedError AttributeError StopIteration object".split())
METHODS = set(
    "append clear copy count endswith extend find get index insert isalnum isalpha isdigit islower isspace isupper "
    "items join keys ljust lower lstrip partition pop remove replace reverse rfind rjust rpartition rsplit rstrip "
    "setdefault split splitlines startswith strip update upper values zfill bit_length title capitalize swapcase "
    "casefold center expandtabs removeprefix removesuffix rindex isascii isdecimal isnumeric istitle isidentifier "
    "isprintable translate sort encode decode add discard hex from_bytes".split())
# An interactive example leaves a "_" among the builtins.
ALL_BUILTINS = set(dir(builtins)) - {"_"}
FOREIGN = {name for kind in (str, int, list, dict, set, bytes, tuple) for name in dir(kind)}
OWN_DOUBLE = set("__init__ __eq__ __repr__ __str__ __len__ __enter__ __exit__ __call__ __iter__ __contains__".split())
BARRED = set(
    "register mro elements open input law version_info with_traceback add_note attrgetter breakpoint builtins compile "
    "copyright credits delattr dir eval exec exit gc getattr globals hasattr help id importlib license locals "
    "methodcaller os quit setattr type vars".split())
UNSAID = set("type typing enum Enum Flag Generic Protocol ABC namedtuple dataclass overload contextmanager abstractmethod".split())
# How no name begins (L12), and what none is, also with digits or underscores behind it.
BEGINNINGS = ("_wall", "_pe_", "_dcw_", "_enum_", "_cm_", "_twin_re_", "_lay_", "_law_", "_stub_", "_sre", "_WallAttr")
WHOLE = ("_cold", "_tuplegetter", "_outside", "_record", "_written_out", "_member_names")
NODES_BARRED = (ast.Global, ast.AsyncFunctionDef, ast.AsyncFor, ast.AsyncWith, ast.Await, ast.Div, ast.MatMult,
                ast.Import, ast.TryStar)

# Files in each of which a property `told` runs a function `inner`, which is to stand behind.
WAYS_TO_RUN = [
    "class Box:\n  @property\n  def told(self):\n    %s\n%s\n" % (rows, more) for rows, more in (
        ("return inner()", ""), ("return self.one()", "  def one(self):\n    return inner()"),
        ("return self.rows[0].one()", "class Row:\n  def one(self):\n    return two()\ndef two():\n  return inner()"),
        ("return tuple([row.one() for row in self.rows])", "class Row:\n  def one(self):\n    return inner()"),
        ("return Row(1)", "class Row:\n  def __init__(self, at):\n    self.at = inner()"),
        ("return Row(1)", "class Base:\n  def __init__(self, at):\n    self.at = inner()\nclass Row(Base):\n  pass"),
        ("return Row.made(1)", "class Row:\n  @staticmethod\n  def made(at):\n    return inner()"),
        ("return outer()", "from a.b import inner as outer"), ("return WAYS[1]()", "WAYS = {1: inner}"),
        ("return OTHER[1]()", "from a.b import WAYS as OTHER\nWAYS = {1: inner}"), ("return sorted(self.rows, key=inner)", ""),
        ("return max(self.rows, key=self.one)", "  def one(self, row):\n    return inner()"),
        ("def outer():\n      return inner()\n    return outer()", ""), ("return sorted(self.rows, key=lambda row: inner())", ""),
    )]


def trees():
    return [(path, ast.parse(path.read_text())) for path in FILES]


def defined(tree):
    """The names that a file defines itself."""
    names = {node.name for node in tree.body if isinstance(node, (ast.FunctionDef, ast.ClassDef))}
    return names | {node.targets[0].id for node in tree.body if isinstance(node, ast.Assign)}


def bound(tree):
    """All names that are given a meaning somewhere, but those of methods and attributes."""
    methods = {id(node) for kind in ast.walk(tree) if isinstance(kind, ast.ClassDef) for node in kind.body}
    for node in ast.walk(tree):
        if isinstance(node, ast.Name) and not isinstance(node.ctx, ast.Load):
            yield node.id
        elif isinstance(node, ast.arg):
            yield node.arg
        elif isinstance(node, ast.ClassDef) or isinstance(node, ast.FunctionDef) and id(node) not in methods:
            yield node.name
        elif isinstance(node, ast.ImportFrom):
            yield from (name.asname or name.name for name in node.names)


def all_names(tree):
    """All names that stand in a file, whatever they name, those of methods, attributes, keywords and slots among them."""
    for node in ast.walk(tree):
        for _, told in ast.iter_fields(node):
            for value in told if isinstance(told, list) else [told]:
                if isinstance(value, str) and not isinstance(node, ast.Constant):
                    yield from value.split(".")
                if isinstance(node, ast.Constant) and isinstance(value, str) and value.isidentifier():
                    yield value


def barred_names(text):
    """The names and words of a file that L12 forbids."""
    found = [name for name in all_names(ast.parse(text)) if name.startswith(BEGINNINGS) or name.rstrip("0123456789_") in WHOLE]
    return sorted({*found, *re.findall(r"(?<!\w)(?:_wall|_WallAttr)(?!\w)", text)})


class Language(unittest.TestCase):
    def test_names_that_are_forbidden(self):
        for path in FILES:
            self.assertEqual(barred_names(path.read_text()), [], path)
            for name in path.relative_to(ROOT).with_suffix("").parts:
                self.assertEqual(barred_names("%s = 0" % name), [], path)

    def test_forbidden_names_are_found(self):
        ways = ("%s = 0", "def %s(a):\n    pass", "def f(%s):\n    pass", "class C:\n    def %s(self):\n        pass", "x.%s = 0", "x = y.%s",
                "f(%s=1)", "from a.b import %s", "from a.%s import b", "from a import b as %s", "class %s:\n    pass", "for %s in x:\n    pass",
                "x = [0 for %s in y]", "x = lambda %s: 0", "class C:\n    __slots__ = ('%s',)", "def f(*%s):\n    pass", "def f(a, **%s):\n    pass",
                "def f():\n    x = 0\n    def g():\n        nonlocal %s\n", "try:\n    f()\nexcept E as %s:\n    pass", "match x:\n    case [%s]:\n        pass",
                "match x:\n    case [*%s]:\n        pass", "match x:\n    case 1 as %s:\n        pass")
        bad = [word + more for word in BEGINNINGS for more in ("", "m", "1", "_x")] + [word + more for word in WHOLE for more in ("", "1", "_", "_2_", "__")]
        for way in ways:
            for name in bad:
                self.assertEqual(barred_names(way % name), [name], way)
            for name in ("_wal", "wall", "_sr", "srem", "_recorded", "_coldly", "x_record", "_lay", "_law", "_take_out", "_cm", "_outsides"):
                self.assertEqual(barred_names(way % name), [], way)
        for line in ("# a _wall here", "x = 'so: _WallAttr.'", '"""_wall"""'):
            self.assertEqual(len(barred_names(line)), 1, line)

    def test_files(self):
        self.assertTrue(FILES)
        for path in (ROOT / "deedline").rglob("*"):
            if "__pycache__" not in path.parts:
                self.assertTrue(path.is_dir() or path.suffix == ".py", path)
                self.assertTrue(not path.is_dir() or (path / "__init__.py").exists(), path)
                self.assertEqual(path.name, path.name.lower())
                self.assertNotIn(path.stem.strip("_"), ALL_BUILTINS)
                self.assertFalse(path.suffix and path.with_suffix("").is_dir(), path)

    def test_sizes_and_characters(self):
        for path, tree in trees():
            text = path.read_text()
            self.assertLessEqual(len(text.splitlines()), 399, path)
            self.assertLessEqual(max([len(line) for line in text.splitlines()], default=0), 120, path)
            self.assertTrue(all(sign == "\n" or " " <= sign <= "~" for sign in text), path)
            for node in ast.walk(tree):
                if isinstance(node, ast.FunctionDef):
                    self.assertLessEqual(node.end_lineno - node.lineno + 1, 40, (path, node.name))

    def test_imports(self):
        known = dict(trees())
        for path, tree in known.items():
            for node in ast.walk(tree):
                if isinstance(node, ast.ImportFrom):
                    self.assertIn(node, tree.body)
                    self.assertEqual(node.level, 0)
                    self.assertTrue(node.module.startswith("deedline."), (path, node.module))
                    other = ROOT / (node.module.replace(".", "/") + ".py")
                    used = {one.id for one in ast.walk(tree) if isinstance(one, ast.Name)}
                    for name in node.names:
                        self.assertIn(name.name, defined(known[other]), path)
                        self.assertIn(name.asname or name.name, used, path)

    def test_module_level(self):
        for path, tree in trees():
            for node in tree.body:
                is_text = isinstance(node, ast.Expr) and isinstance(node.value, ast.Constant)
                kinds = (ast.ImportFrom, ast.FunctionDef, ast.ClassDef, ast.Assign)
                self.assertTrue(is_text or isinstance(node, kinds), (path, node.lineno))
            names = [node.name for node in tree.body if isinstance(node, (ast.FunctionDef, ast.ClassDef))]
            self.assertEqual(len(names), len(set(names)), path)

    def test_names(self):
        for path, tree in trees():
            here = {name.asname or name.name for node in tree.body if isinstance(node, ast.ImportFrom)
                    for name in node.names} | {node.name for node in tree.body if isinstance(node, ast.ClassDef)}
            names = list(bound(tree))
            for name in names:
                self.assertNotIn(name, ALL_BUILTINS, path)
                self.assertNotIn(name, BARRED, path)
                self.assertFalse(name.startswith("__"), (path, name))
            for name in here:
                self.assertEqual(names.count(name), 1, (path, name))

    def test_what_is_used(self):
        for path, tree in trees():
            for node in ast.walk(tree):
                where = (path, getattr(node, "lineno", 0))
                self.assertNotIsInstance(node, NODES_BARRED, where)
                if isinstance(node, ast.Name) and node.id in ALL_BUILTINS:
                    self.assertIn(node.id, BUILTINS, where)
                if isinstance(node, ast.Name):
                    self.assertFalse(node.id == "_" and isinstance(node.ctx, ast.Load), where)
                if isinstance(node, ast.Attribute) and node.attr in FOREIGN:
                    self.assertIn(node.attr, METHODS, where)
                if isinstance(node, ast.FunctionDef) and node.name.startswith("__"):
                    self.assertIn(node.name, OWN_DOUBLE, where)
                if isinstance(node, ast.Constant):
                    self.assertNotIsInstance(node.value, (float, complex), where)
                    self.assertFalse(isinstance(node.value, str) and "%" in node.value, where)
                if isinstance(node, ast.BinOp) and isinstance(node.op, ast.Pow):
                    self.assertIsInstance(node.right, ast.Constant, where)
                if isinstance(node, ast.Compare) and isinstance(node.ops[0], (ast.Is, ast.IsNot)):
                    self.assertIn(ast.dump(node.comparators[0])[:8], ("Constant",), where)
                if isinstance(node, ast.ExceptHandler):
                    self.assertIsNotNone(node.type, where)

    def test_members(self):
        properties, methods, attributes = set(), set(), set()
        for path, tree in trees():
            for kind in [node for node in ast.walk(tree) if isinstance(node, ast.ClassDef)]:
                functions = [node for node in kind.body if isinstance(node, ast.FunctionDef)]
                here = {node.name for node in functions if is_property(node)}
                own = {node.name for node in functions} - here
                stored = {node.attr for node in ast.walk(kind) if isinstance(node, ast.Attribute) and isinstance(node.ctx, ast.Store)
                          and isinstance(node.value, ast.Name) and node.value.id == "self"}
                self.assertEqual(len(functions), len(here | own), path)
                self.assertFalse(stored & (own | here), (path, kind.name))
                properties, methods, attributes = properties | here, methods | own, attributes | stored
        # A property is told from all else by its name alone.
        self.assertFalse(properties & (methods | attributes | METHODS | FOREIGN))
        self.assertFalse((attributes | methods) & (UNSAID | BARRED))
        self.assertFalse(attributes & {"items", "keys", "values", "pop", "update", "append", "clear", "extend", "insert", "remove",
                                       "reverse", "setdefault", "sort", "args", "encode", "decode", "hex", "fromhex", "format"})

    def test_what_is_made_at_module_level(self):
        for path, tree in trees():
            functions = {node.name for node in tree.body if isinstance(node, ast.FunctionDef)}
            for node in tree.body:
                if isinstance(node, ast.Assign):
                    for part in ast.walk(node.value):
                        self.assertNotIsInstance(part, (ast.Call, ast.ListComp, ast.DictComp, ast.GeneratorExp), (path, node.lineno))
                        self.assertFalse(isinstance(part, ast.Name) and part.id not in functions, (path, node.lineno))

    def test_words_and_loops(self):
        for path, tree in trees():
            imported = {name.asname or name.name for node in tree.body if isinstance(node, ast.ImportFrom) for name in node.names}
            for node in ast.walk(tree):
                where = (path, getattr(node, "lineno", 0))
                self.assertNotIsInstance(node, (ast.GeneratorExp, ast.Yield, ast.YieldFrom, ast.Match, ast.Lambda), where)
                if isinstance(node, ast.Constant) and isinstance(node.value, str):
                    self.assertNotIn(node.value, UNSAID, where)
                if isinstance(node, ast.Raise) and node.exc is not None:
                    self.assertIsInstance(node.exc, ast.Call, where)
                if isinstance(node, ast.FunctionDef):
                    self.assertFalse(imported & {one.arg for one in ast.walk(node) if isinstance(one, ast.arg)}, where)
                if isinstance(node, ast.JoinedStr):
                    self.assertFalse([one for part in node.values if isinstance(part, ast.FormattedValue) for one in ast.walk(part.value)
                                      if isinstance(one, (ast.JoinedStr, ast.Constant))], where)

    def test_what_only_tells(self):
        texts = [path.read_text() for path in FILES]
        self.assertEqual(modifying_calls(texts), [])
        self.assertEqual(changing_parts(texts), [])

    def test_calls_that_modify_are_found(self):
        for name in sorted(MODIFYING):
            other = "class Disk:\n    def %s(self, signs):\n        self.signs = signs\n" % name
            call = "rows = []\n    rows.%s(1)\n    return rows\n" % name
            for way in WAYS_TO_RUN:
                text = way + "def inner():\n    " + call
                self.assertEqual(modifying_calls([other, text]), [("told", name)], text)
                self.assertEqual(modifying_calls([text, other]), [("told", name)], text)
                # Where no class has a method of that name, the call is plainly that of a list.
                self.assertEqual(modifying_calls([text]), [], text)
                self.assertEqual(modifying_calls([text, "def %s(signs):\n    pass\n" % name]), [], text)
                self.assertEqual(modifying_calls([other, way + "def inner():\n    rows = []\n    rows += [1]\n    return rows\n"]), [])
            text = "class Box:\n  @property\n  def told(self):\n    " + call
            self.assertEqual((modifying_calls([text]), modifying_calls([text, other])), ([], [("told", name)]))
            for double in ("__eq__", "__str__", "__repr__", "__len__", "__contains__"):
                text = "class Box:\n  def %s(self, *other):\n    return inner()\ndef inner():\n    %s" % (double, call)
                self.assertEqual(modifying_calls([other, text]), [(double, name)], text)
            for plain in ("__init__", "__call__", "put"):
                text = "class Box:\n  def %s(self, *other):\n    return inner()\ndef inner():\n    %s" % (plain, call)
                self.assertEqual(modifying_calls([other, text]), [], text)

    def test_changes_are_found(self):
        bad = ("self.rows = 0", "self.rows += [1]", "self.rows[0] = 1", "del self.rows[0]", "self.rows.pop()", "rows = self.rows\n    rows[0] = 1",
               "rows = []\n    rows = self.rows\n    rows.append(1)", "self.put(1)", "for rows in self.rows:\n      rows.append(1)",
               "rows = self.rows\n    rows += [1]", "rows = {k: 1 for k in self.rows}\n    rows[0] = 1", "[].append(1)", "a, self.b = 1, 2",
               "rows = [1]\n    rows += [2]", "many = self.many()\n    many += many", "rows = 'a'\n    rows |= 2", "rows = []\n    rows *= 2",
               "rows = [2, 1]\n    rows.sort()", "rows = set()\n    rows.add(1)", "rows = set()\n    rows.discard(1)")
        good = ("rows = []\n    rows.append(1)", "rows = []\n    rows += [2]", "many = 2\n    many *= 3", "rows = list(self.rows)\n    rows[0] = 1", "rows = {}\n    rows[0] = 1",
                "many = 0\n    many += 1", "many = len(self.rows)\n    many -= len(self.rows)", "rows = [x for x in self.rows]\n    del rows[0]", "self.rest(1)")
        more = "  def put(self, row):\n    self.rows = row\n  def rest(self, row):\n    return Box()\n  def __init__(self):\n    self.rows = []\n"
        for rows in bad:
            self.assertTrue(changing_parts(["class Box:\n  @property\n  def told(self):\n    %s\n%s" % (rows, more)]), rows)
            self.assertTrue(changing_parts(["class Box:\n  def __len__(self):\n    %s\n    return 0\n%s" % (rows, more)]), rows)
            self.assertEqual(changing_parts(["class Box:\n  def told(self):\n    %s\n%s" % (rows, more)]), [], rows)
        for rows in good:
            self.assertEqual(changing_parts(["class Box:\n  @property\n  def told(self):\n    %s\n%s" % (rows, more)]), [], rows)
