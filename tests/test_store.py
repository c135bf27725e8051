"""The store: what it is made of, its calls one by one, and what it refuses."""

from deedline.errors import InvalidCommand, InvalidNumber, InvalidOperation, InvalidStore, InvalidText, InvalidTime
from deedline.plain.store import is_unit
from deedline.shape.packs import Bounds
from deedline.store.core import Store
from deedline.store.room import POLICIES
from tests.helpers import (
    Case, not_commands, not_integers, not_keys, not_of, not_stores, not_times, values,
)
from tests.plain import DONE, NONE, error, number, text, texts, words_of

END = 10 ** 15
PLACES = 10 ** 12
KEPT = {"b": ("text", "7", None), "a": ("list", ("x", "y"), 50), "c": ("set", ("1", "2"), 20)}


def told(store):
    """All that a store tells of itself."""
    return (store.kept(), list(store), store.units, store.begin, store.place, store.now, store.last, store.size, store.bound, store.policy,
            store.marks(), [store.shape_at(key) for key in store], [store.changed(place) for place in range(store.begin, store.place)])


def not_policies():
    return [value for value in values() if value not in POLICIES] + ["Idle", "refuse ", ("idle",), ["idle"]]


def not_units():
    near = [(1, ()), (1, (("get", "a"),)), (1, (("expire", "a", "5"),)), (True, (("clear",),)), (None, (("clear",),)), (-1, (("clear",),)),
            (END + 1, (("clear",),)), [1, (("clear",),)], (1, [("clear",)]), (1, ("clear",)), (1, (("clear",),), 1), ((1, (("clear",),)),), (1, (("gone",),))]
    return [value for value in values() if not is_unit(value)] + near


class Making(Case):
    def test_made(self):
        store = Store()
        self.assertEqual(told(store), ({}, [], (), 0, 0, 0, 0, 0, None, "refuse", {}, [], []))
        self.assertEqual(store.bounds, Bounds.usual())
        store = Store(KEPT, bounds=Bounds(1, 2, 3, 4), bound=100, policy="idle", place=7, now=60)
        self.assertEqual(told(store), (KEPT, ["a", "b", "c"], (), 7, 7, 60, 60, 64, 100, "idle", {}, ["nodes", "text", "row"], []))
        self.assertEqual((store.bounds, len(store)), (Bounds(1, 2, 3, 4), 3))
        self.assertEqual(Store(None, bounds=None, bound=None).kept(), {})
        self.assertEqual(Store(KEPT, bound=64).size, 64)
        self.assertEqual((Store(bound=1, place=PLACES, now=END).place, Store(bound=PLACES).bound, Store(now=END).last), (PLACES, PLACES, END))

    def test_what_it_is_made_of_stays_apart(self):
        kept = dict(KEPT)
        store = Store(kept)
        kept["d"] = ("text", "", None)
        self.assertEqual(store.kept(), KEPT)
        store.kept()["a"] = store.shown(0)["b"] = store.marks()["a"] = store.snapshot()[0]["b"] = 5
        self.assertEqual((store.kept(), store.marks()), (KEPT, {}))
        store.call(("del", "a"), 5)
        self.assertEqual(kept, {**KEPT, "d": ("text", "", None)})

    def test_refused(self):
        for value in not_stores():
            if value is not None:
                self.refused(InvalidStore, None, Store, value)
                self.refused(InvalidStore, None, Store, value, bounds=5, bound=0, policy=1, place=-1, now=-1)
        for value in not_of(Bounds, type(None)):
            self.refused(InvalidOperation, None, Store, bounds=value)
            self.refused(InvalidOperation, None, Store, bounds=value, bound=0, now=-1)
        for value in not_integers(1, PLACES) + [PLACES + 1, 0]:
            if value is not None:
                self.refused(InvalidNumber, value, Store, bound=value)
                self.refused(InvalidNumber, value, Store, bound=value, policy=None, place=-1)
        for value in not_policies():
            self.refused(InvalidOperation, None, Store, policy=value)
            self.refused(InvalidOperation, None, Store, policy=value, place=-1, now=-1)
        for value in not_integers(0, PLACES) + [PLACES + 1, -1]:
            self.refused(InvalidNumber, value, Store, place=value)
            self.refused(InvalidNumber, value, Store, place=value, now=-1)
        for value in not_times():
            self.refused(InvalidTime, value, Store, now=value)
            self.refused(InvalidTime, value, Store, KEPT, bound=1, now=value)
        self.refused(InvalidOperation, None, Store, KEPT, bound=63)


class Calling(Case):
    def test_call(self):
        store = Store(KEPT, place=3, now=10)
        self.assertEqual(store.call(("get", "b"), 10), text("7"))
        self.assertEqual((store.place, store.now, store.marks()), (3, 10, {"b": 1}))
        self.assertEqual(store.call(words_of("add b 1"), 15), number(8))
        self.assertEqual((store.units, store.units_from(3), store.units_from(4), store.changed(3)), (((15, (words_of("add b 1"),)),),) * 2 + ((), (("b",),)))
        self.assertEqual(store.call(words_of("set d x for 5"), 20), DONE)
        self.assertEqual(store.units[-1], (20, (words_of("set d x until 25"),)))
        self.assertEqual(store.call(words_of("scount c"), 20), number(0))
        self.assertEqual(store.call(words_of("sadd c 9"), 30), number(1))
        self.assertEqual((store.units[-1], store.changed(5)), ((30, (("gone", "c"), words_of("sadd c 9"))), (("c",), ("c",))))
        self.assertEqual((store.place, store.begin, store.now, store.last), (6, 3, 30, 30))
        self.assertEqual(store.call(("nope",), 31), error("unknown"))
        self.assertEqual(store.call(("get",), 32), error("words"))
        self.assertEqual((store.place, store.now, store.last), (6, 32, 30))
        self.assertEqual(store.entry("d"), ("text", "x", 25))
        self.assertEqual((store.shown(24), store.shown(25)["b"]), (store.kept(), ("text", "8", None)))
        self.assertEqual(list(store.shown(25)), ["a", "b", "c"])
        self.assertIsNone(store.entry("e"))

    def test_error_with_takings(self):
        store = Store(KEPT)
        self.assertEqual(store.call(words_of("setat c 0 x"), 20), error("missing"))
        self.assertEqual((store.units, store.marks(), store.last), (((20, (("gone", "c"),)),), {}, 20))

    def test_block(self):
        store = Store(KEPT)
        commands = (words_of("add b 1"), ("get", "c"), ("nope",), words_of("set c x"), words_of("scan 0"))
        self.assertEqual(store.block(commands, 20), ("list", (number(8), NONE, error("unknown"), DONE, ("list", (text("0"), texts("b", "a", "c"))))))
        self.assertEqual(store.units, ((20, (words_of("add b 1"), ("gone", "c"), words_of("set c x"))),))
        self.assertEqual((store.changed(0), store.marks()), ((("b",), ("c",), ("c",)), {"b": 1, "c": 3}))
        self.assertEqual((store.block((), 21), store.block((("get", "b"),) * 64, 22)[1][63], store.place, store.now), (("list", ()), text("8"), 1, 22))

    def test_sweep(self):
        store = Store(KEPT)
        self.assertEqual([store.sweep(19, 200), store.sweep(50, 0), store.sweep(50, 1), store.place], [0, 0, 1, 1])
        self.assertEqual((store.units, store.now, store.last, store.changed(0)), (((50, (("gone", "c"),)),), 50, 50, (("c",),)))
        self.assertEqual([store.sweep(50, 200), store.units[1:], store.sweep(60, 200), store.last], [1, ((50, (("gone", "a"),)),), 0, 50])

    def test_apply(self):
        store = Store(KEPT, bound=70, now=10)
        store.call(("get", "b"), 10)
        store.call(("len", "a"), 10)
        unit = (12, (("out", "b"), ("gone", "zz"), words_of("set b " + "x" * 90), words_of("popl a"), words_of("set a 1 until 3"), ("gone", "c")))
        self.assertEqual(store.apply(unit), (("b",), (), ("b",), ("a",), ("a",), ("c",)))
        self.assertEqual((store.units, store.now, store.last, store.place, store.marks()), ((unit,), 12, 12, 1, {"a": 2}))
        self.assertEqual(store.kept(), {"a": ("text", "1", 3), "b": ("text", "x" * 90, None)})
        self.assertGreater(store.size, 70)
        self.assertEqual(store.apply((12, (("gone", "zz"),))), ((),))
        self.assertEqual((store.place, store.changed(1)), (2, ((),)))
        # It fits again if enough is gone.
        self.assertEqual([store.call(words_of("add n 1"), 12), store.call(("del", "b"), 12), store.size], [error("room"), number(1), 18])

    def test_times_go_on(self):
        store = Store(KEPT, now=10)
        store.call(("nope",), 12)
        before = told(store)
        for call in (lambda now: store.call(("clear",), now), lambda now: store.block((), now), lambda now: store.sweep(now, 0),
                     lambda now: store.apply((now, (("clear",),)))):
            for now in (0, 10, 11):
                self.refused(InvalidTime, now, call, now)
        self.assertEqual(told(store), before)

    def test_refused(self):
        store = Store(KEPT, place=5, now=3)
        store.call(words_of("add b 1"), 10)
        before = told(store)
        for value in not_commands():
            self.refused(InvalidCommand, None, store.call, value, 10)
            self.refused(InvalidCommand, None, store.call, value, None)
            self.refused(InvalidCommand, None, store.block, (("clear",), value), 10)
        for value in values():
            if value != () and value != (("a", "b"),) and value != (("a",),):
                self.refused(InvalidCommand, None, store.block, value, None)
        self.refused(InvalidCommand, None, store.block, (("size",),) * 65, 10)
        self.refused(InvalidCommand, None, store.block, [("size",)], 9)
        for value in not_times():
            self.refused(InvalidTime, value, store.call, ("clear",), value)
            self.refused(InvalidTime, value, store.call, ("nope",), value)
            self.refused(InvalidTime, value, store.block, (("clear",),), value)
            self.refused(InvalidTime, value, store.sweep, value, None)
            self.refused(InvalidTime, value, store.shown, value)
        for value in not_integers(0, 200) + [201, -1]:
            self.refused(InvalidNumber, value, store.sweep, 60, value)
        self.refused(InvalidTime, 9, store.sweep, 9, None)
        for value in not_units():
            self.refused(InvalidOperation, None, store.apply, value)
        for value in not_keys():
            self.refused(InvalidText, value, store.entry, value)
            self.refused(InvalidText, value, store.shape_at, value)
        for value in not_integers(5, 6) + [4, 7, -1]:
            self.refused(InvalidNumber, value, store.units_from, value)
        for value in not_integers(5, 5) + [4, 6, -1]:
            self.refused(InvalidNumber, value, store.changed, value)
        self.assertEqual(told(store), before)


class Room(Case):
    def test_refused_units_change_nothing_but_the_time(self):
        store = Store(KEPT, bound=64)
        self.assertEqual(store.call(words_of("add b 9"), 1), error("room"))
        before = (KEPT, (), {}, 64)
        self.assertEqual((store.kept(), store.units, store.marks(), store.size, store.now), (*before, 1))
        self.assertEqual(store.block((("get", "b"), ("add", "b", "9")), 2), error("room"))
        self.assertEqual((store.kept(), store.units, store.marks(), store.size, store.now), (*before, 2))
        # What it would have taken stays, too.
        self.assertEqual(store.call(("set", "c", "x" * 99), 30), error("room"))
        self.assertEqual((store.kept(), store.units), (KEPT, ()))
        self.assertEqual(store.call(words_of("append b 12345"), 30), number(6))
        self.assertEqual(store.units, ((30, (words_of("append b 12345"), ("gone", "c"))),))
        self.assertEqual(store.marks(), {"b": 1})

    def test_order(self):
        kept = {key: ("text", "", until) for key, until in (("a", None), ("b", 9), ("c", 8), ("d", 8), ("e", 3))}
        for policy, told_deeds in (("nearest", ("e", "c", "d", "b")), ("idle", ("e", "b", "a", "d", "c"))):
            store = Store(kept, bound=85, policy=policy)
            for key in "adcx":
                store.call(("get", key), 1)
            deeds = []
            for many in (1, 18, 35, 52):
                other = store.twin()
                other.call(("set", "f", "x" * (many - 1)), 5)
                deeds.append([key for _, key in other.units[-1][1][1:]])
                self.assertLessEqual(other.size, 85)
            self.assertEqual(deeds, [list(told_deeds[:many]) for many in (1, 2, 3, 4)])
            self.assertEqual([word for word, _ in other.units[-1][1][1:]], ["gone", "out", "out", "out"])
            self.assertEqual(other.changed(0), (("f",), *((key,) for key in told_deeds[:4])))

    def test_named_keys_stay(self):
        kept = {key: ("text", "", None) for key in "abc"}
        store = Store(kept, bound=51, policy="idle")
        self.assertEqual(store.block((("get", "a"), ("sadd", "b", "x"), ("append", "c", "x")), 1), error("room"))
        self.assertEqual(store.block((("kind", "a"), ("append", "c", "x")), 1), ("list", (text("text"), number(1))))
        self.assertEqual(store.units[-1][1], (("append", "c", "x"), ("out", "b")))
        # A command that is answered by an error names its keys, too; one that is not right names none.
        store = Store(kept, bound=51, policy="idle")
        self.assertEqual(store.block((("sadd", "a", "x"), ("append", "c", "x"), ("get", "b", "x")), 1)[1][0], error("kind"))
        self.assertEqual(store.units[-1][1], (("append", "c", "x"), ("out", "b")))

    def test_marks(self):
        store = Store({"a": ("text", "1", 20), "b": ("text", "2", None)})
        for line, now, marks in (
            ("get a", 1, {"a": 1}), ("get x", 1, {"a": 1}), ("exists b a x", 1, {"a": 3, "b": 3}), ("size", 1, {"a": 3, "b": 3}), ("keys a", 1, {"a": 3, "b": 3}),
            ("sadd a x", 2, {"a": 3, "b": 3}), ("get", 2, {"a": 3, "b": 3}), ("get b", 2, {"a": 3, "b": 6}), ("expireat a 2", 2, {"a": 3, "b": 6}),
            ("get a", 2, {"a": 3, "b": 6}), ("setat a 0 x", 2, {"b": 6}), ("rename b c", 2, {"c": 9}), ("copy c b", 2, {"b": 10, "c": 10}),
            ("set d x until 1", 2, {"b": 10, "c": 10}), ("persist d", 2, {"b": 10, "c": 10}), ("scan 0", 2, {"b": 10, "c": 10}), ("clear", 2, {}), ("set a 1", 3, {"a": 15}),
        ):
            store.call(words_of(line), now)
            self.assertEqual((line, store.marks()), (line, marks))
        self.assertEqual(Store.loaded(store.snapshot()).marks(), {})

    def test_a_store_above_its_bound(self):
        # Only `apply` can make one: it looks at no room.
        store = Store(bound=20, policy="nearest")
        store.apply((1, (("setall", "a", "", "b", "", "c", ""), ("expireat", "c", "50"))))
        self.assertEqual([store.size, store.call(("get", "a"), 1), store.call(("append", "a", ""), 1), store.sweep(40, 9)], [51, text(""), number(0), 0])
        self.assertEqual([store.call(("append", "a", "x"), 1 + 40), store.place], [error("room"), 1])
        self.assertEqual([store.call(("del", "a"), 41), store.units[-1][1], store.size], [number(1), (("del", "a"), ("out", "c")), 17])


class Going(Case):
    def test_snapshots(self):
        store = Store(KEPT, place=2, now=4)
        self.assertEqual(store.snapshot(), (KEPT, 2, 4))
        store.call(("get", "b"), 30)
        self.assertEqual(store.snapshot(), (KEPT, 2, 4))
        store.call(("del", "b"), 40)
        snapshot = store.snapshot()
        self.assertEqual((snapshot, list(snapshot[0])), (({"a": KEPT["a"], "c": KEPT["c"]}, 3, 40), ["a", "c"]))
        other = Store.loaded(snapshot)
        self.assertEqual(told(other), ({"a": KEPT["a"], "c": KEPT["c"]}, ["a", "c"], (), 3, 3, 40, 40, 46, None, "refuse", {}, ["nodes", "row"], []))
        self.assertTrue(other == store)
        other = Store.loaded(snapshot, bounds=Bounds(1, 1, 0, 0), bound=46, policy="idle")
        self.assertEqual((other.bounds, other.bound, other.policy, other.shape_at("c")), (Bounds(1, 1, 0, 0), 46, "idle", "table"))
        self.assertEqual(Store.loaded(({}, 0, 0), bounds=None, bound=None).bounds, Bounds.usual())

    def test_snapshots_that_are_none(self):
        for value in values() + [({}, 0), ({}, 0, 0, 0), [{}, 0, 0], ({}, True, 0), ({}, 0, True), ({}, -1, 0), ({}, 0, -1), ({}, PLACES + 1, 0), ({}, 0, END + 1),
                                 ({"": ("text", "", None)}, 0, 0), (None, 0, 0), (Store(), 0, 0)]:
            self.refused(InvalidOperation, None, Store.loaded, value)
            self.refused(InvalidOperation, None, Store.loaded, value, bound=0)
        for more in ({"place": 0}, {"now": 0}, {"entries": {}}, {"rule": "always"}, {"bound": 0, "nope": 1}):
            self.refused(InvalidOperation, None, Store.loaded, ({}, 0, 0), **more)
        for value in not_of(Bounds, type(None)):
            self.refused(InvalidOperation, None, Store.loaded, ({}, 0, 0), bounds=value, bound=0)
        for value in not_integers(1, PLACES):
            if value is not None:
                self.refused(InvalidNumber, value, Store.loaded, ({}, 0, 0), bound=value, policy=None)
        for value in not_policies():
            self.refused(InvalidOperation, None, Store.loaded, ({}, 0, 0), policy=value)
        self.refused(InvalidOperation, None, Store.loaded, (KEPT, 0, 0), bound=63)

    def test_equal(self):
        store = Store(KEPT)
        self.assertTrue(store == Store(dict(reversed(KEPT.items())), bounds=Bounds(1, 1, 0, 0), bound=90, policy="idle", now=7))
        for other in (Store({}), Store(KEPT, place=1), Store({**KEPT, "b": ("text", "7", 99)})):
            self.assertFalse(store == other)
            self.assertTrue(store != other)
        for value in values():
            if type(value) is not Store:
                self.assertIs(store == value, False)
                self.assertIs(value == store, False)

    def test_in_and_iterating(self):
        store = Store(KEPT)
        self.assertEqual((list(store), sorted(store), len(store), [key for key in store]), (["a", "b", "c"], ["a", "b", "c"], 3, ["a", "b", "c"]))
        for value in values():
            self.assertIs(value in store, type(value) is str and value in KEPT)

    def test_twin(self):
        store = Store(KEPT, bounds=Bounds(2, 9, 1, 3), bound=500, policy="idle", place=4, now=2)
        store.call(("sadd", "s", "1", "2"), 5)
        store.call(("srem", "s", "2"), 5)
        twin = store.twin()
        self.assertEqual(told(twin), told(store))
        self.assertEqual((twin.shape_at("s"), twin == store, twin.bounds == store.bounds), ("table", True, True))
        before = told(store)
        twin.call(("sadd", "s", "9"), 6)
        twin.call(("pushr", "a", "9"), 6)
        self.assertEqual(told(store), before)
        self.assertFalse(twin == store)

    def test_shapes(self):
        store = Store(bounds=Bounds(8, 64, 3, 5))
        for line, key, shape in (
            ("sadd s 1 2", "s", "row"), ("sadd s x", "s", "table"), ("srem s x", "s", "table"), ("copy s s2", "s2", "row"), ("rename s s3", "s3", "table"),
            ("sunionto s3 s3", "s3", "table"), ("sunionto s4 s3", "s4", "row"), ("smove s3 s4 1", "s4", "row"), ("smove s3 s5 2", "s5", "row"),
            ("hset m f abcdef f abc", "m", "table"), ("hset n f abc", "n", "row"), ("hset n f abcdef f abd", "n", "table"), ("copy n n2", "n2", "row"),
            ("copy n n2 over", "n2", "row"), ("hset n2 f abcdefg", "n2", "table"), ("copy n2 n over", "n", "table"), ("rename n2 n", "n", "table"), ("hset p f a", "p", "row"), ("copy n p2", "p2", "table"),
            ("copy p p2 over", "p2", "row"), ("del p p2", "p", None),
            ("zadd z 1 a 2 b 3 c", "z", "row"), ("zadd z 5 a 4 d", "z", "skips"), ("zpop z least 3", "z", "skips"), ("zunionto z 1 z weights 2", "z", "row"),
            ("set z x", "z", "text"), ("setall m y", "m", "text"), ("pushr l a b", "l", "nodes"), ("sadd q 1 2 3 4", "q", "table"), ("spop q 4", "q", None),
            ("sadd q 1", "q", "row"), ("hset h f a g b h c", "h", "row"), ("hset h i d", "h", "table"), ("hdel h f g h", "h", "table"), ("del h", "h", None),
        ):
            store.call(words_of(line), 0)
            self.assertEqual((line, store.shape_at(key)), (line, shape))
        other = Store(bounds=Bounds(8, 64, 3, 5))
        for unit in store.units:
            other.apply(unit)
        self.assertEqual([other.shape_at(key) for key in other], [store.shape_at(key) for key in store])
        loaded = Store.loaded(store.snapshot(), bounds=store.bounds)
        self.assertEqual({key: loaded.shape_at(key) for key in loaded}, {"l": "nodes", "m": "text", "n": "table", "q": "row", "s2": "row", "s4": "row", "s5": "row", "z": "text"})

    def test_lists_that_change_anywhere(self):
        store, row = Store(bounds=Bounds(2, 5, 3, 3)), ["a", "b", "a", "b", "a"]
        store.call(("pushr", "l", *row), 0)
        for line, made in (("drop l 0 b", "aaa"), ("pushl l c b", "bcaaa"), ("insert l after c a", "bcaaaa"), ("trim l 1 -2", "caaa"), ("setat l -1 b", "caab"),
                           ("move l l left right", "aabc"), ("move l l right left", "caab"), ("drop l -1 a", "cab"), ("popr l 2", "c"), ("pushr l a a", "caa")):
            store.call(words_of(line), 0)
            self.assertEqual((line, store.entry("l")[1]), (line, tuple(made)))
