"""Stage 9: entries, shapes and sizes."""

import copy

from deedline.errors import InvalidOperation, InvalidStore, InvalidText
from deedline.shape import entries
from deedline.shape.entries import entry_size, is_entry, is_plain, is_shaped, is_store, kind_of, plain_of, shape_of
from deedline.shape.entries import shaped, store_size, value_size
from deedline.shape.maps import Fields
from deedline.shape.packs import Bounds, Pack
from deedline.shape.sets import Members
from deedline.shape.sorts import Scores
from tests.helpers import ENTRIES, LEAST, MOST, Case, chance, is_plain_text, not_entries, not_keys, not_of, not_plain
from tests.helpers import not_stores, values

KINDS = ("list", "map", "set", "sorted", "text")
TEXTS = tuple("%03d" % at for at in range(200))
PLAIN = [
    ("text", ""), ("text", "a" * 200), ("text", "007"), ("list", ("a",)), ("list", ("b", "a", "b", "")),
    ("list", TEXTS), ("list", ("a",) * 200), ("list", ("a" * 200,) * 200), ("set", ("",)), ("set", ("A", "a", "b")),
    ("set", TEXTS), ("set", ("", "a" * 199, "a" * 200)), ("sorted", ((0, ""),)), ("sorted", ((LEAST, "b"), (MOST, "a"))),
    ("sorted", ((1, "a"), (1, "b"), (2, "A"))), ("sorted", tuple((5, text) for text in TEXTS)),
    ("sorted", ((-1, "a" * 200),)), ("map", (("", ""),)), ("map", (("a", "b"), ("b", "a"))),
    ("map", tuple((text, "x") for text in TEXTS)), ("map", (("a" * 200, "b" * 200),)),
]


class Kinds(Case):
    def test_constants(self):
        self.assertEqual(entries.KINDS, KINDS)
        self.assertEqual((entries.MAX_KEYS, entries.KEY_SIZE), (200, 16))

    def test_plain_values(self):
        for kind, value in PLAIN:
            self.assertEqual([is_plain(one, value) for one in KINDS if one not in ("set", "list")],
                             [one == kind for one in KINDS if one not in ("set", "list")])
            self.assertIs(is_plain(kind, value), True)
            self.assertIs(is_plain("list", value), kind in ("list", "set"))
        self.assertIs(is_plain("set", ("a", "b")), True)

    def test_no_plain_values(self):
        for kind, value in not_plain():
            self.assertIs(is_plain(kind, value), False, (kind, value))

    def test_every_value_is_taken(self):
        good = {"list": [("a",), ("a", "b"), ("a",) * 64, ("a",) * 65, ("done",), ("text", "a")],
                "map": [(("a", "b"),)], "set": [("a",), ("a", "b"), ("done",)], "sorted": [((1, "a"),)]}
        for value in values():
            self.assertIs(is_plain("text", value), is_plain_text(value))
            for kind, told in good.items():
                self.assertIs(is_plain(kind, value), type(value) is tuple and value in told, (kind, value))

    def test_refused(self):
        for value in [*values(), "kind", "List", "texts", ("text",)]:
            self.refused(InvalidOperation, None, is_plain, value, "a")
            self.refused(InvalidOperation, None, is_plain, value, None)


class Entries(Case):
    def test_entries(self):
        for kind, value in PLAIN:
            for until in (None, 0, 1, 10 ** 15):
                self.assertIs(is_entry((kind, value, until)), True)
            for until in (True, False, -1, 10 ** 15 + 1, "0", (), [None]):
                self.assertIs(is_entry((kind, value, until)), False)

    def test_no_entries(self):
        for value in not_entries():
            self.assertIs(is_entry(value), False, value)

    def test_stores(self):
        good = [{}, {"a": ENTRIES["text"]}, {"k" * 40: ENTRIES["map"]}, {"b": ENTRIES["set"], "a": ENTRIES["list"]},
                {" ": ("text", "", 0)}, {text: ENTRIES["sorted"] for text in TEXTS}]
        for value in good:
            self.assertIs(is_store(value), True)

    def test_no_stores(self):
        for value in not_stores():
            self.assertIs(is_store(value), False, value)


class Shapes(Case):
    def test_each_kind(self):
        bounds = Bounds(2, 9, 2, 3)
        for kind, value, thing, word in (
            ("text", "abc", "abc", "text"), ("list", ("b", "a", "b"), Pack(bounds, ("b", "a", "b")), "nodes"),
            ("set", ("1", "2"), Members(bounds, ("1", "2")), "row"), ("set", ("1", "x"), Members(bounds, ("1", "x")), "table"),
            ("sorted", ((1, "b"), (2, "a")), Scores(bounds, ((1, "b"), (2, "a"))), "row"),
            ("sorted", ((1, "long"),), Scores(bounds, ((1, "long"),)), "skips"),
            ("map", (("a", "b"),), Fields(bounds, (("a", "b"),)), "row"),
            ("map", (("a", "long"),), Fields(bounds, (("a", "long"),)), "table"),
        ):
            made = shaped(bounds, kind, value)
            self.assertIs(type(made), type(thing))
            self.assertEqual(made, thing)
            self.assertIs(is_shaped(made), True)
            self.assertEqual((kind_of(made), plain_of(made), shape_of(made)), (kind, value, word))
            if kind != "text":
                self.assertIs(made.bounds == bounds, True)
        self.assertEqual(shaped(bounds, "list", ("a", "b", "c")).nodes, (("a", "b"), ("c",)))

    def test_all_plain_values_come_back(self):
        for kind, value in PLAIN:
            for bounds in (Bounds.usual(), Bounds(1, 1, 0, 0), Bounds(64, 1000, 200, 200)):
                made = shaped(bounds, kind, value)
                self.assertEqual((kind_of(made), plain_of(made)), (kind, value))

    def test_without_members(self):
        bounds = Bounds.usual()
        for thing, kind, word in ((Pack(bounds), "list", "nodes"), (Members(bounds), "set", "row"),
                                  (Scores(bounds), "sorted", "row"), (Fields(bounds), "map", "row"), ("", "text", "text")):
            self.assertIs(is_shaped(thing), True)
            self.assertEqual((kind_of(thing), shape_of(thing)), (kind, word))
            self.assertEqual(plain_of(thing), "" if kind == "text" else ())

    def test_a_new_one_each_time(self):
        bounds = Bounds.usual()
        for kind, value in PLAIN:
            one, other = shaped(bounds, kind, value), shaped(bounds, kind, value)
            if kind != "text":
                one.take(0 if kind == "list" else value[0] if kind == "set" else value[0][kind == "sorted"])
                self.assertEqual((len(one), plain_of(other)), (len(value) - 1, value))

    def test_every_value_is_taken(self):
        for value in values():
            told = is_plain_text(value) or type(value) in (Pack, Members, Scores, Fields)
            self.assertIs(is_shaped(value), told)
            if not told:
                for call in (kind_of, plain_of, shape_of):
                    self.refused(InvalidOperation, None, call, value)

    def test_refused(self):
        for value in not_of(Bounds):
            self.refused(InvalidOperation, None, shaped, value, "text", "a")
            self.refused(InvalidOperation, None, shaped, value, None, None)
        for value in values():
            self.refused(InvalidOperation, None, shaped, Bounds.usual(), value, "a")
        for kind, value in not_plain():
            self.refused(InvalidOperation, None, shaped, Bounds.usual(), kind, value)


class Sizes(Case):
    def test_sizes(self):
        for kind, value, size in (
            ("text", "", 0), ("text", "abc", 3), ("list", ("",), 2), ("list", ("ab", "", "ab"), 10),
            ("set", ("", "abc"), 7), ("sorted", ((0, ""),), 10), ("sorted", ((LEAST, "ab"), (MOST, "c")), 23),
            ("map", (("", ""),), 4), ("map", (("ab", "c"), ("d", "efg")), 15), ("list", ("a" * 200,) * 200, 40400),
            ("map", tuple((text, text) for text in TEXTS), 2000),
        ):
            self.assertEqual(value_size(kind, value), size)
            for key, until in (("k", None), ("key", 0), ("k" * 40, 10 ** 15)):
                self.assertEqual(entry_size(key, (kind, value, until)), size + len(key) + 16)
        self.assertEqual(store_size({}), 0)
        self.assertEqual(store_size({"b": ("text", "ab", 5), "aa": ("set", ("x",), None)}), 19 + 21)

    def test_the_sum_of_many(self):
        pick = chance(9)
        for _ in range(20):
            kept = {"k%d" % at: (*pick.choice(PLAIN), None) for at in range(pick.randrange(12))}
            before = copy.deepcopy(kept)
            self.assertEqual(store_size(kept), sum(entry_size(key, entry) for key, entry in kept.items()))
            self.assertEqual(kept, before)

    def test_refused(self):
        for value in values():
            self.refused(InvalidOperation, None, value_size, value, "a")
        for kind, value in not_plain():
            self.refused(InvalidOperation, None, value_size, kind, value)
        for value in not_keys():
            self.refused(InvalidText, value, entry_size, value, ENTRIES["text"])
            self.refused(InvalidText, value, entry_size, value, None)
        for value in not_entries():
            self.refused(InvalidStore, None, entry_size, "a", value)
        for value in not_stores():
            self.refused(InvalidStore, None, store_size, value)
