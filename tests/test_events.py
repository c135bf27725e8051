"""Stage 19: events and listeners."""

import collections

from deedline.base.patterns import does_fit
from deedline.errors import InvalidOperation, InvalidStore, InvalidText
from deedline.plain.store import apply, is_deed, is_unit
from deedline.store import events
from deedline.store.core import Store
from deedline.store.events import Listeners, events_of, unit_events
from tests.helpers import Case, chance, not_stores, not_texts, values
from tests.model_store import Times
from tests.plain import LINES, words_of

KEPT = {"a": ("list", ("x", "y"), 50), "b": ("text", "7", None), "c": ("set", ("1", "2"), 20)}
FILLED = {**KEPT, "d": ("text", "7", None)}


def named(deed, entries):
    """The keys that a deed names, each once, by the rows of the document."""
    word, *texts = deed
    if word == "clear":
        return sorted(entries)
    if word in ("del", "sinterto", "sunionto", "sdiffto"):
        keys = texts
    elif word == "setall":
        keys = texts[::2]
    elif word in ("smove", "move", "rename", "renamenew", "copy"):
        keys = texts[:2]
    elif word in ("zunionto", "zinterto"):
        keys = [texts[0], *texts[2:2 + int(texts[1])]]
    else:
        keys = texts[:1]
    return list(dict.fromkeys(keys))


def plain_events(entries, unit):
    """The events of a unit, and the entries behind it."""
    told = []
    for deed in unit[1]:
        after = apply(entries, deed)
        for key in named(deed, entries):
            before, behind = entries.get(key), after.get(key)
            if before != behind:
                word = "made" if before is None else "dropped" if behind is None else "changed"
                told.append((deed[0] if deed[0] in ("gone", "out") else word, key))
        entries = after
    return tuple(told), entries


class Events(Case):
    def test_constants(self):
        self.assertEqual(events.MAX_WANTED, 100)

    def test_words(self):
        for line, told in (
            ("gone a", [("gone", "a")]), ("out b", [("out", "b")]), ("gone z", []), ("out z", []), ("set z 1", [("made", "z")]), ("set b 1", [("changed", "b")]),
            ("set b 7", []), ("set b 7 until 5", [("changed", "b")]), ("grab b", [("dropped", "b")]), ("del c z b a c", [("dropped", "c"), ("dropped", "b"), ("dropped", "a")]),
            ("rename b a", [("dropped", "b"), ("changed", "a")]), ("rename b d", [("dropped", "b")]), ("rename a z", [("dropped", "a"), ("made", "z")]),
            ("rename a a", []), ("renamenew a b", []), ("copy b z", [("made", "z")]), ("copy b a over", [("changed", "a")]), ("copy b d over", []),
            ("setall z 1 b 2 d 7 a 3 z 4", [("made", "z"), ("changed", "b"), ("changed", "a")]), ("clear", [("dropped", "a"), ("dropped", "b"), ("dropped", "c"), ("dropped", "d")]),
            ("popl a 2", [("dropped", "a")]), ("popl a", [("changed", "a")]), ("expireat a 50", []), ("expireat a 5", [("changed", "a")]), ("persist c", [("changed", "c")]),
            ("move a e left right", [("changed", "a"), ("made", "e")]), ("move a a left right", [("changed", "a")]), ("sunionto e c", [("made", "e")]),
            ("sdiffto c c c", [("dropped", "c")]), ("sinterto a c", [("changed", "a")]), ("zunionto z 1 c", [("made", "z")]), ("sadd b x", []), ("smove c z 1", [("changed", "c"), ("made", "z")]),
        ):
            deed, entries = words_of(line), dict(FILLED)
            self.assertEqual((line, events_of(entries, deed)), (line, tuple(told)))
            self.assertEqual(unit_events(entries, (3, (deed,))), tuple(told))
            self.assertEqual(entries, FILLED)

    def test_units(self):
        unit = (5, (("set", "z", "1"), ("set", "z", "2"), ("del", "z"), ("gone", "a"), ("setall", "a", "1", "z", "1"), ("out", "z"), ("clear",)))
        self.assertEqual(unit_events(KEPT, unit), (("made", "z"), ("changed", "z"), ("dropped", "z"), ("gone", "a"), ("made", "a"), ("made", "z"), ("out", "z"),
                                                   ("dropped", "a"), ("dropped", "b"), ("dropped", "c")))

    def test_events_of_lines(self):
        for seed in range(10):
            times = Times(seed + 20, [line.split(" ")[0] for line in LINES], keys=2, astray=0.1)
            store = Store(bound=700, policy=("idle", "nearest")[seed % 2])
            for _ in range(150):
                before, place = store.kept(), store.place
                store.call(times.command(), times.now)
                if times.pick.random() < 0.1:
                    store.sweep(times.now, 3)
                for at, unit in enumerate(store.units[place:], place):
                    told, after = plain_events(before, unit)
                    self.assertEqual(unit_events(before, unit), told)
                    keys = collections.Counter(key for _, key in told)
                    self.assertEqual(keys, collections.Counter(key for row in store.changed(at) for key in row))
                    before = after
                self.assertEqual(before, store.kept())

    def test_refused(self):
        unit = (5, (("clear",),))
        for value in not_stores():
            self.refused(InvalidStore, None, events_of, value, None)
            self.refused(InvalidStore, None, unit_events, value, None)
            self.refused(InvalidStore, None, events_of, value, ("clear",))
            self.refused(InvalidStore, None, Listeners().tell, value, None)
            self.refused(InvalidStore, None, Listeners().tell, value, unit)
        for value in values() + [("get", "a"), ("expire", "a", "5"), ("gone",), ("gone", ""), ("set", "a", "b", "for", "5")]:
            if not is_deed(value):
                self.refused(InvalidOperation, None, events_of, KEPT, value)
        for value in values() + [(5, ()), (5, ("clear",)), (True, (("clear",),)), (5, [("clear",)]), [5, (("clear",),)], (-1, (("clear",),))]:
            if not is_unit(value):
                self.refused(InvalidOperation, None, unit_events, KEPT, value)
                self.refused(InvalidOperation, None, Listeners().tell, KEPT, value)


class PlainListeners:
    """A plain model of listeners."""

    def __init__(self):
        self.wanted = collections.defaultdict(lambda: (set(), set(), set()))
        self.kept = collections.defaultdict(list)

    def want(self, name, sort, told):
        self.wanted[name][sort].update(told)
        return self.count(name)

    def end(self, name, sort, told):
        self.wanted[name][sort].difference_update(told or set(self.wanted[name][sort]))
        return self.count(name)

    def count(self, name):
        return sum(map(len, self.wanted[name]))

    def names(self):
        return tuple(sorted(name for name in {*self.wanted, *self.kept} if self.count(name) or self.kept[name]))

    def many(self):
        return sum(map(len, self.kept.values()))

    def publish(self, channel, text):
        before = self.many()
        for name, (channels, patterns, _) in self.wanted.items():
            if channel in channels:
                self.kept[name].append(("message", channel, text))
            for pattern in sorted(patterns):
                if does_fit(pattern, channel):
                    self.kept[name].append(("match", pattern, channel, text))
        return self.many() - before

    def tell(self, told):
        before = self.many()
        for word, key in told:
            for name, (_, _, patterns) in self.wanted.items():
                for pattern in sorted(patterns):
                    if does_fit(pattern, key):
                        self.kept[name].append(("event", pattern, word, key))
        return self.many() - before

    def replaced(self):
        before = self.many()
        for name, (_, _, patterns) in self.wanted.items():
            self.kept[name] += [("event", pattern, "replaced", "") for pattern in sorted(patterns)]
        return self.many() - before


class Listening(Case):
    def test_channels_and_patterns(self):
        some = Listeners()
        self.assertEqual((some.names, len(some), some.wants("ann"), some.taken("ann")), ((), 0, ((), (), ()), ()))
        self.assertEqual([some.listen("ann", "news", "", "news"), some.match("ann", "n*", "*"), some.events("ann", "k?"), some.listen("bob", "x"), some.listen("cyd")], [2, 4, 5, 1, 0])
        self.assertEqual((some.names, some.wants("ann"), some.wants("cyd")), (("ann", "bob"), (("", "news"), ("*", "n*"), ("k?",)), ((), (), ())))
        self.assertEqual([some.publish("news", "hi"), some.publish("", "x y"), some.publish("x", "")], [3, 2, 2])
        self.assertEqual(len(some), 7)
        self.assertEqual(some.taken("ann"), (("message", "news", "hi"), ("match", "*", "news", "hi"), ("match", "n*", "news", "hi"), ("message", "", "x y"), ("match", "*", "", "x y"),
                                             ("match", "*", "x", "")))
        self.assertEqual((some.taken("ann"), some.taken("bob"), len(some)), ((), (("message", "x", ""),), 0))

    def test_events(self):
        some = Listeners()
        some.events("bob", "*", "?", "[ab]")
        some.events("ann", "b")
        unit = (9, (("gone", "a"), ("set", "b", "8"), ("set", "bb", "8")))
        self.assertEqual((some.tell(KEPT, unit), some.tell(KEPT, (9, (("gone", "z"),)))), (8, 0))
        self.assertEqual(some.taken("bob"), (("event", "*", "gone", "a"), ("event", "?", "gone", "a"), ("event", "[ab]", "gone", "a"), ("event", "*", "changed", "b"),
                                             ("event", "?", "changed", "b"), ("event", "[ab]", "changed", "b"), ("event", "*", "made", "bb")))
        self.assertEqual(some.taken("ann"), (("event", "b", "changed", "b"),))
        self.assertEqual(some.replaced(), 4)
        self.assertEqual((some.taken("ann"), some.taken("bob")), ((("event", "b", "replaced", ""),), tuple(("event", pattern, "replaced", "") for pattern in ("*", "?", "[ab]"))))

    def test_order_of_all_messages(self):
        some = Listeners()
        some.listen("ann", "c")
        some.events("ann", "*")
        some.publish("c", "1")
        some.tell({}, (1, (("set", "a", "1"),)))
        some.publish("c", "2")
        some.replaced()
        self.assertEqual(some.taken("ann"), (("message", "c", "1"), ("event", "*", "made", "a"), ("message", "c", "2"), ("event", "*", "replaced", "")))

    def test_ending(self):
        some = Listeners()
        some.listen("ann", "a", "b", "c")
        some.match("ann", "a", "b")
        some.events("ann", "a")
        self.assertEqual([some.unlisten("ann", "a", "z"), some.unmatch("ann", "z"), some.unlisten("ann"), some.unmatch("ann"), some.unevents("ann", "b")], [5, 5, 3, 1, 1])
        self.assertEqual((some.names, some.unevents("ann", "a"), some.names, some.unlisten("bob"), some.unevents("bob", "x")), (("ann",), 0, (), 0, 0))

    def test_names_with_messages_alone(self):
        some = Listeners()
        some.listen("ann", "a")
        some.publish("a", "x")
        some.unlisten("ann")
        self.assertEqual((some.names, len(some), some.publish("a", "y")), (("ann",), 1, 0))
        self.assertEqual((some.taken("ann"), some.names, some.close("ann")), ((("message", "a", "x"),), (), False))
        some.listen("eve", "a")
        some.publish("a", "x")
        some.unlisten("eve")
        self.assertEqual((some.names, some.close("eve"), some.names, len(some)), (("eve",), True, (), 0))
        some.listen("bob", "a")
        some.publish("a", "x")
        self.assertEqual((some.close("bob"), some.close("bob"), some.names, len(some), some.taken("bob"), some.publish("a", "z")), (True, False, (), 0, (), 0))
        some.events("cyd", "a")
        self.assertIs(some.close("cyd"), True)

    def test_a_hundred_and_one_more(self):
        some = Listeners()
        names = ["n%d" % at for at in range(101)]
        self.assertEqual(some.listen("ann", *names[:60]), 60)
        self.assertEqual(some.match("ann", *names[:40]), 100)
        before = some.wants("ann")
        for call in (some.listen, some.match, some.events):
            self.refused(InvalidOperation, None, call, "ann", "more")
            self.refused(InvalidOperation, None, call, "bob", *names)
        self.assertEqual((some.wants("ann"), some.names), (before, ("ann",)))
        self.assertEqual([some.listen("ann", "n0", "n1"), some.match("ann"), some.events("ann"), some.unmatch("ann", "n0"), some.events("ann", "e")], [100, 100, 100, 99, 100])
        self.refused(InvalidOperation, None, some.events, "ann", "e", "f")
        self.assertEqual([some.listen("bob", *names[:100]), some.unlisten("ann", "more")], [100, 100])

    def test_refused(self):
        some = Listeners()
        some.listen("ann", "a")
        for value in not_texts():
            for call in (some.listen, some.match, some.events, some.unlisten, some.unmatch, some.unevents):
                self.refused(InvalidText, value, call, value)
                self.refused(InvalidText, value, call, value, 5)
                self.refused(InvalidText, value, call, "ann", value)
                self.refused(InvalidText, value, call, "ann", *["n%d" % at for at in range(101)], value, 5)
            for call in (some.taken, some.close, some.wants):
                self.refused(InvalidText, value, call, value)
            self.refused(InvalidText, value, some.publish, value, 5)
            self.refused(InvalidText, value, some.publish, "a", value)
        self.assertEqual((some.names, some.wants("ann"), len(some)), (("ann",), (("a",), (), ()), 0))

    def test_what_is_told_stays_apart(self):
        some = Listeners()
        some.listen("ann", "b", "a")
        self.assertIs(type(some.wants("ann")), tuple)
        self.assertEqual([type(row) for row in some.wants("ann")], [tuple] * 3)
        self.assertIs(type(some.taken("ann")), tuple)
        self.unlike(some)

    def test_twin(self):
        some = Listeners()
        some.listen("ann", "a")
        some.publish("a", "x")
        twin = some.twin()
        twin.listen("ann", "b")
        twin.publish("b", "y")
        self.assertEqual((some.wants("ann"), len(some), twin.wants("ann"), len(twin)), ((("a",), (), ()), 1, (("a", "b"), (), ()), 2))

    def test_long_runs(self):
        words = ("", "a", "b", "t1", "l0", "news", "n*", "[a-n]*", "?", "*", "t?", "\\*", "[", "[^t]*", "*1")
        for seed in range(12):
            pick, times = chance(seed), Times(seed + 70, [line.split(" ")[0] for line in LINES], keys=2)
            some, plain, store = Listeners(), PlainListeners(), Store()
            for _ in range(150):
                name, told = pick.choice(("", "ann", "bob", "cyd")), [pick.choice(words) for _ in range(pick.randrange(4))]
                sort = pick.randrange(3)
                what = pick.random()
                if what < 0.3:
                    self.assertEqual((some.listen, some.match, some.events)[sort](name, *told), plain.want(name, sort, told))
                elif what < 0.4:
                    self.assertEqual((some.unlisten, some.unmatch, some.unevents)[sort](name, *told), plain.end(name, sort, told))
                elif what < 0.6:
                    self.assertEqual(some.publish(name, words[0]), plain.publish(name, words[0]))
                elif what < 0.65:
                    self.assertEqual(some.replaced(), plain.replaced())
                elif what < 0.7:
                    self.assertEqual(some.close(name), name in plain.names())
                    plain.wanted.pop(name, None)
                    plain.kept.pop(name, None)
                elif what < 0.8:
                    self.assertEqual(some.taken(name), tuple(plain.kept.pop(name, ())))
                else:
                    before, place = store.kept(), store.place
                    store.call(times.command(), times.now)
                    for unit in store.units_from(place):
                        self.assertEqual(some.tell(before, unit), plain.tell(plain_events(before, unit)[0]))
                self.assertEqual((some.names, len(some)), (plain.names(), plain.many()))
                self.assertEqual(some.wants(name), tuple(tuple(sorted(row)) for row in plain.wanted[name]))
