"""What several tests need: values of every kind, plain predicates, and a check of what is refused."""

import random
import unittest

from deedline import errors
from deedline.shape.maps import Fields
from deedline.shape.packs import Bounds, Pack
from deedline.shape.sets import Members
from deedline.shape.skips import Skips
from deedline.shape.sorts import Scores
from deedline.shape.tables import Table

KEPT_AS = {
    errors.InvalidText: "value", errors.InvalidTime: "value", errors.InvalidNumber: "value",
    errors.TooMany: "limit", errors.ParseError: "index", errors.BadLetters: "index",
    errors.UnknownName: "asked", errors.PowerLost: "count", errors.Refused: "reason",
}
LEAST = -9223372036854775808
MOST = 9223372036854775807
SIGNS = "".join(chr(code) for code in range(32, 127))


def values():
    """New values of every kind that [0.4] names."""
    deep = []
    for _ in range(7):
        deep = [deep]
    return [
        True, False, None, 0, 1, -1, 2, 5, 16, 64, 200, 201, 1000, 1001, 65535, 65536, LEAST, MOST,
        LEAST - 1, MOST + 1, 10 ** 15, 10 ** 15 + 1, -(10 ** 15), 10 ** 39, -(10 ** 39),
        "", " ", "~", "a", "a b", "a" * 40, "a" * 41, SIGNS, "a" * 200, "a" * 201, "a" * 5000,
        "\n", "a\n", "\na", "a" * 199 + "\n", "\n" * 5000, "0", "-1", "done",
        (), ((),), ("a",), ("a", "b"), ("a", 1), (1, "a"), (1, 2), ((1, "a"),), (("a", 1),), (("a", "b"),),
        (True, "a"), ((False, "a"),), ("text", "a"), ("number", True), ("done",), ("a", None), (None, "a"),
        ("a",) * 64, ("a",) * 65, ("a" * 201,), ("a\n",), [], ["a"], ["a", "b"], [1, "a"], [[1, "a"]],
        ["done"], {}, {"a": "b"}, {1: 2}, {"a": [1]}, {(): ()}, deep, (((((((("a",),),),),),),),), {"a": {"b": [(1,)]}},
        Table(), Bounds(1, 1, 0, 0), Bounds.usual(), Pack(Bounds.usual(), ("a",)), Members(Bounds.usual(), ("a",)),
        Skips(((1, "a"),)), Scores(Bounds.usual(), ((1, "a"),)), Fields(Bounds.usual(), (("a", "b"),)),
        errors.DeedError(), errors.InvalidText("a"), errors.TooMany(200), errors.UnknownName(["a"]),
    ]


def is_plain_text(value):
    return type(value) is str and len(value) <= 200 and all(sign in SIGNS for sign in value)


def is_plain_integer(value, least, most):
    return type(value) is int and least <= value <= most


def not_texts():
    return [value for value in values() if not is_plain_text(value)]


def not_integers(least, most):
    return [value for value in values() if not is_plain_integer(value, least, most)]


def not_wholes():
    return not_integers(LEAST, MOST)


def not_of(*classes):
    """Values that are objects of none of some classes."""
    return [value for value in values() if type(value) not in classes]


def chance(seed):
    """A row of numbers that looks like chance, the same one in every run."""
    return random.Random(seed)


class Case(unittest.TestCase):
    """A test case that knows what it is to be refused."""

    def refused(self, error, kept, call, *told, **more):
        """The call raises just this error, which keeps just this, if it keeps anything."""
        with self.assertRaises(error) as caught:
            call(*told, **more)
        self.assertIs(type(caught.exception), error)
        if error in KEPT_AS:
            value = getattr(caught.exception, KEPT_AS[error])
            self.assertIs(type(value), type(kept))
            self.assertEqual(value, kept)

    def unlike(self, thing):
        """The thing is equal to no value of another kind, and not iterated over."""
        for value in values():
            if type(value) is not type(thing):
                self.assertIs(thing == value, False)
                self.assertIs(thing != value, True)
                self.assertIs(value == thing, False)
        with self.assertRaises(TypeError):
            iter(thing)
