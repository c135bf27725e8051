"""What several tests need: values of every kind, plain predicates, and a check of what is refused."""

import copy
import random
import unittest

from deedline import errors
from deedline.base.letters import Reader
from deedline.client.blocks import Session
from deedline.client.server import Server
from deedline.client.waits import Waits
from deedline.copy.group import Group
from deedline.copy.nodes import Node
from deedline.disk.disk import Disk
from deedline.disk.keeper import Keeper
from deedline.shape.maps import Fields
from deedline.shape.packs import Bounds, Pack
from deedline.shape.sets import Members
from deedline.shape.skips import Skips
from deedline.shape.sorts import Scores
from deedline.shape.tables import Table
from deedline.store.core import Store
from deedline.store.events import Listeners
from deedline.store.room import Marks
from deedline.text.shell import Shell

KEPT_AS = {
    errors.InvalidText: "value", errors.InvalidTime: "value", errors.InvalidNumber: "value",
    errors.TooMany: "limit", errors.ParseError: "index", errors.BadLetters: "index",
    errors.UnknownName: "asked", errors.PowerLost: "count", errors.Refused: "reason",
}
LEAST = -9223372036854775808
MOST = 9223372036854775807
SIGNS = "".join(chr(code) for code in range(32, 127))


def values():
    """New values of every kind that [0.4] names."""
    deep = []
    for _ in range(7):
        deep = [deep]
    return [
        True, False, None, 0, 1, -1, 2, 5, 16, 64, 200, 201, 1000, 1001, 65535, 65536, LEAST, MOST,
        LEAST - 1, MOST + 1, 10 ** 15, 10 ** 15 + 1, -(10 ** 15), 10 ** 39, -(10 ** 39),
        "", " ", "~", "a", "a b", "a" * 40, "a" * 41, SIGNS, "a" * 200, "a" * 201, "a" * 5000,
        "\n", "a\n", "\na", "a" * 199 + "\n", "\n" * 5000, "0", "-1", "done",
        (), ((),), ("a",), ("a", "b"), ("a", 1), (1, "a"), (1, 2), ((1, "a"),), (("a", 1),), (("a", "b"),),
        (True, "a"), ((False, "a"),), ("text", "a"), ("number", True), ("done",), ("a", None), (None, "a"),
        ("a",) * 64, ("a",) * 65, ("a" * 201,), ("a\n",), [], ["a"], ["a", "b"], [1, "a"], [[1, "a"]],
        ["done"], {}, {"a": "b"}, {1: 2}, {"a": [1]}, {(): ()}, deep, (((((((("a",),),),),),),),), {"a": {"b": [(1,)]}},
        Table(), Bounds(1, 1, 0, 0), Bounds.usual(), Pack(Bounds.usual(), ("a",)), Members(Bounds.usual(), ("a",)),
        Skips(((1, "a"),)), Scores(Bounds.usual(), ((1, "a"),)), Fields(Bounds.usual(), (("a", "b"),)),
        Reader("commands"), Marks(), Store({"a": ("text", "b", None)}), Listeners(), Disk(), Keeper(Disk(), 1), Session(Store()), Waits(Store()),
        Server(Store()), Node("a"), Group(("a", "b")), Shell(Store()), errors.DeedError(), errors.InvalidText("a"), errors.TooMany(200),
        errors.UnknownName(["a"]),
    ]


def is_plain_text(value):
    return type(value) is str and len(value) <= 200 and all(sign in SIGNS for sign in value)


def is_plain_integer(value, least, most):
    return type(value) is int and least <= value <= most


def not_texts():
    return [value for value in values() if not is_plain_text(value)]


def not_integers(least, most):
    return [value for value in values() if not is_plain_integer(value, least, most)]


def not_wholes():
    return not_integers(LEAST, MOST)


def not_of(*classes):
    """Values that are objects of none of some classes."""
    return [value for value in values() if type(value) not in classes]


def not_keys():
    return [value for value in values() if not is_plain_text(value) or not 1 <= len(value) <= 40]


def not_times():
    return not_integers(0, 10 ** 15)


def not_commands():
    """Values that are no commands, and values near commands."""
    near = [("get", "a" * 201), ("get", "a\n"), ("get", 1), ("get", True), ("get", None), ["get", "a"], ("get", ("a",)),
            ("a",) * 65, ("get", "a", ["a"]), "get", (), {"get": "a"}]
    told = [value for value in values() if type(value) is not tuple or not all(map(is_plain_text, value))
            or not 1 <= len(value) <= 64]
    return told + near


# Entries of each kind.
ENTRIES = {
    "list": ("list", ("x", "y", "x"), None), "map": ("map", (("f", "7"), ("g", "x")), None),
    "set": ("set", ("x", "y"), None), "sorted": ("sorted", ((-1, "y"), (2, "x")), None), "text": ("text", "7", None),
}


def not_plain():
    """Pairs of a kind and a value that is no plain value of it, but near one."""
    texts = tuple("%03d" % at for at in range(201))
    return [
        ("text", "a" * 201), ("text", "a\n"), ("text", ("a",)), ("text", None), ("text", 7),
        ("list", ()), ("list", texts), ("list", ["a"]), ("list", "ab"), ("list", ("a", 1)), ("list", ("a" * 201,)),
        ("list", ("a", None)), ("list", (("a",),)), ("list", ("a\n",)), ("list", {"a": "b"}),
        ("set", ()), ("set", texts), ("set", ["a", "b"]), ("set", ("b", "a")), ("set", ("a", "a")), ("set", ("a", 1)),
        ("set", ("a", "c", "b")), ("set", ("a", "b" * 201)), ("set", ("a", None)),
        ("sorted", ()), ("sorted", tuple((1, text) for text in texts)), ("sorted", [(1, "a")]), ("sorted", ("a",)),
        ("sorted", ((2, "a"), (1, "b"))), ("sorted", ((1, "b"), (1, "a"))), ("sorted", ((1, "a"), (1, "a"))),
        ("sorted", ((1, "a"), (2, "b"), (3, "a"))), ("sorted", ((True, "a"),)), ("sorted", ((0, "a"), (True, "b"))),
        ("sorted", (("1", "a"),)), ("sorted", ((1, 2),)), ("sorted", ((1, "a", "b"),)), ("sorted", ([1, "a"],)),
        ("sorted", ((MOST + 1, "a"),)), ("sorted", ((LEAST - 1, "a"),)), ("sorted", ((1, "a" * 201),)),
        ("sorted", (("a", 1),)), ("sorted", ((None, "a"),)), ("sorted", (1, "a")), ("sorted", {1: "a"}),
        ("map", ()), ("map", tuple((text, "") for text in texts)), ("map", [("a", "b")]), ("map", ("ab",)),
        ("map", (("b", ""), ("a", ""))), ("map", (("a", ""), ("a", "b"))), ("map", (("a", "b"), ("a", "b"))),
        ("map", (("a", 1),)), ("map", ((1, "a"),)), ("map", (("a", "b", "c"),)), ("map", (["a", "b"],)),
        ("map", (("a", "b" * 201),)), ("map", (("a" * 201, "b"),)), ("map", (("a",),)), ("map", ("a", "b")),
        ("map", {"a": "b"}), ("map", ((True, "a"),)), ("map", (("a", None),)),
    ]


def not_entries():
    """Values that are no entries, and values near entries."""
    near = [
        (), ("text",), ("text", "a"), ("text", "a", None, None), ["text", "a", None], ("text", "a", True),
        ("text", "a", False), ("text", "a", -1), ("text", "a", 10 ** 15 + 1), ("text", "a", "5"), ("text", "a", ()),
        ("texts", "a", None), ("Text", "a", None), ("", "a", None), (None, "a", None), (["text"], "a", None),
        (1, "a", None), (True, "a", None), ("set", "a", None), ("text", ("a",), None), (Table(), "a", None), "abc",
        ("text", "a", Table()), ("sorted", (("f", "g"),), None), ("map", ((1, "a"),), None),
    ]
    return values() + near + [(kind, value, None) for kind, value in not_plain()]


def not_stores():
    """Values that are no plain stores, and values near plain stores."""
    good = ("text", "a", None)
    near = [{key: good} for key in ("", "k" * 41, "a\n", 1, None, True, ("a",))]
    near += [{"a": good, key: good} for key in ("", 0, False)]
    near += [{"a": good, "b": entry} for entry in not_entries()]
    near += [{"k%d" % at: good for at in range(201)}, [("a", good)], (("a", good),), good]
    return [value for value in values() if value != {} or type(value) is not dict] + near


def chance(seed):
    """A row of numbers that looks like chance, the same one in every run."""
    return random.Random(seed)


class Case(unittest.TestCase):
    """A test case that knows what it is to be refused."""

    def refused(self, error, kept, call, *told, **more):
        """The call raises just this error, which keeps just this, if it keeps anything."""
        with self.assertRaises(error) as caught:
            call(*told, **more)
        self.assertIs(type(caught.exception), error)
        if error in KEPT_AS:
            value = getattr(caught.exception, KEPT_AS[error])
            self.assertIs(type(value), type(kept))
            self.assertEqual(value, kept)

    def does(self, call, command, entries, reply, after):
        """The call returns the reply and the entries behind it, ascending; what was passed stays."""
        entries = dict(entries)
        before = copy.deepcopy(entries)
        told = call(command, entries)
        self.assertIs(type(told), tuple)
        self.assertEqual((command, told), (command, (reply, after)))
        self.assertEqual(list(told[1]), sorted(after))
        self.assertIs(type(told[1]), dict)
        self.assertIsNot(told[1], entries)
        self.assertEqual((entries, list(entries)), (before, list(before)))
        told[1]["else"] = None
        self.assertEqual(entries, before)

    def unlike(self, thing):
        """The thing is equal to no value of another kind, and not iterated over."""
        for value in values():
            if type(value) is not type(thing):
                self.assertIs(thing == value, False)
                self.assertIs(thing != value, True)
                self.assertIs(value == thing, False)
        with self.assertRaises(TypeError):
            iter(thing)
