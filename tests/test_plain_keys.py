"""Stage 14: keys and times."""

import itertools

from deedline.base.hashes import spot_of
from deedline.errors import InvalidCommand, InvalidStore, InvalidTime
from deedline.plain.keys import do_keys
from deedline.plain.store import do, shown
from tests import model
from tests.helpers import ENTRIES, LEAST, MOST, chance, not_commands, not_stores, not_times
from tests.model_times import Timed
from tests.plain import DONE, KINDS, LINES, NONE, PlainCase, error, number, text, texts, words_of

WORDS = ("clear", "copy", "del", "exists", "expire", "expireat", "keys", "kind", "left", "persist", "rename", "renamenew", "scan", "size")
# At 50, `gone` has run out before, `now` just runs out, `soon` and `late` run out later, and `ever` never.
KEPT = {"gone": ("text", "x", 20), "now": ("list", ("a",), 50), "soon": ("set", ("a",), 51), "late": ("map", (("f", "1"),), 10 ** 15),
        "ever": ("sorted", ((1, "a"),), None)}
NAMES = sorted(KEPT)


def until(key, told):
    return (*KEPT[key][:2], told)


def scanned(cursor, *names):
    return ("list", (text(str(cursor)), texts(*names)))


class Keys(PlainCase):
    def at(self, now, entries, *told):
        """As `lines`, at a time."""
        def call(command, kept):
            return do_keys(command, kept, now)
        self.lines(call, entries, *told)

    def at_each_time(self, *told):
        for now in (None, 0, 50, 10 ** 15):
            self.at(now, KEPT, *told)

    def test_del(self):
        self.at_each_time(("del gone", number(1), {"gone": None}), ("del x", number(0), {}), ("del now x ever now", number(2), {"now": None, "ever": None}),
                          ("del " + " ".join(NAMES), number(5), {key: None for key in NAMES}))
        kept = {"del": ENTRIES["text"], "exists": ENTRIES["text"], "k": ENTRIES["set"]}
        self.at(5, kept, ("del k", number(1), {"k": None}), ("exists k", number(1), {}), ("exists exists", number(1), {}))

    def test_exists(self):
        for now, many in ((None, 5), (0, 5), (19, 5), (20, 4), (49, 4), (50, 3), (51, 2), (10 ** 15 - 1, 2), (10 ** 15, 1)):
            self.at(now, KEPT, ("exists " + " ".join(NAMES), number(many), {}), ("exists ever x ever", number(2), {}), ("size", number(many), {}))
        self.at(50, KEPT, ("exists soon gone soon now", number(2), {}), ("exists x", number(0), {}))

    def test_kind(self):
        for kind in KINDS:
            self.at(None, {"k": ENTRIES[kind]}, ("kind k", text(kind), {}), ("kind x", NONE, {}))
        self.at(None, KEPT, ("kind gone", text("text"), {}))
        self.at(50, KEPT, ("kind gone", NONE, {}), ("kind now", NONE, {}), ("kind soon", text("set"), {}), ("kind late", text("map"), {}))

    def test_rename(self):
        self.at_each_time(
            ("rename ever x", DONE, {"ever": None, "x": KEPT["ever"]}), ("rename soon ever", DONE, {"soon": None, "ever": KEPT["soon"]}),
            ("rename gone now", DONE, {"gone": None, "now": KEPT["gone"]}), ("rename ever ever", DONE, {}), ("rename x ever", error("missing"), {}),
            ("rename x x", error("missing"), {}), ("rename x y", error("missing"), {}))

    def test_renamenew(self):
        self.at_each_time(
            ("renamenew soon x", number(1), {"soon": None, "x": KEPT["soon"]}), ("renamenew soon ever", number(0), {}), ("renamenew soon gone", number(0), {}),
            ("renamenew gone x", number(1), {"gone": None, "x": KEPT["gone"]}), ("renamenew soon soon", number(0), {}), ("renamenew x ever", error("missing"), {}),
            ("renamenew x x", error("missing"), {}))

    def test_copy(self):
        self.at_each_time(
            ("copy soon x", number(1), {"x": KEPT["soon"]}), ("copy soon ever", number(0), {}), ("copy soon ever over", number(1), {"ever": KEPT["soon"]}),
            ("copy soon gone", number(0), {}), ("copy gone now over", number(1), {"now": KEPT["gone"]}), ("copy soon soon", number(0), {}),
            ("copy soon soon over", number(0), {}), ("copy x ever", number(0), {}), ("copy x ever over", number(0), {}), ("copy x x over", number(0), {}),
            ("copy ever x over", number(1), {"x": KEPT["ever"]}))

    def test_expireat(self):
        self.at_each_time(("expireat ever 0", number(1), {"ever": until("ever", 0)}), ("expireat now 1000000000000000", number(1), {"now": until("now", 10 ** 15)}),
                          ("expireat x 5", number(0), {}), ("expireat soon 51", number(1), {}), ("expireat x 5 new", number(0), {}))
        for option, told in (("new", {"ever": (1, 1, 1)}), ("old", {"now": (1, 1, 1)}), ("later", {"now": (0, 0, 1)}),
                             ("sooner", {"now": (1, 0, 0), "ever": (1, 1, 1)})):
            for key in ("now", "ever"):
                for end, holds in zip((49, 50, 51), told.get(key, (0, 0, 0))):
                    changes = {key: until(key, end)} if holds else {}
                    self.at_each_time(("expireat %s %d %s" % (key, end, option), number(holds), changes))

    def test_expire(self):
        self.at(50, KEPT, ("expire ever 10", number(1), {"ever": until("ever", 60)}), ("expire ever 0", number(1), {"ever": until("ever", 50)}),
                ("expire ever -50", number(1), {"ever": until("ever", 0)}), ("expire ever -51", number(1), {"ever": until("ever", 0)}),
                ("expire ever %d" % LEAST, number(1), {"ever": until("ever", 0)}), ("expire x 10", number(0), {}),
                ("expire ever %d" % (10 ** 15 - 50), number(1), {"ever": until("ever", 10 ** 15)}), ("expire ever %d" % (10 ** 15 - 49), error("range"), {}),
                ("expire x %d" % MOST, error("range"), {}), ("expire now %d old" % MOST, error("range"), {}), ("expire gone 1", number(1), {"gone": until("gone", 51)}),
                ("expire now 1 later", number(1), {"now": until("now", 51)}), ("expire now 0 later", number(0), {}), ("expire now 0 sooner", number(0), {}),
                ("expire now -1 sooner", number(1), {"now": until("now", 49)}), ("expire ever 5 new", number(1), {"ever": until("ever", 55)}),
                ("expire ever 5 old", number(0), {}), ("expire ever 5 later", number(0), {}), ("expire ever 5 sooner", number(1), {"ever": until("ever", 55)}))
        self.at(0, KEPT, ("expire ever 1000000000000000", number(1), {"ever": until("ever", 10 ** 15)}), ("expire ever -1", number(1), {"ever": until("ever", 0)}))
        self.at(10 ** 15, KEPT, ("expire ever 0", number(1), {"ever": until("ever", 10 ** 15)}), ("expire ever 1", error("range"), {}))

    def test_left_and_persist(self):
        self.at(50, KEPT, ("left gone", number(-2), {}), ("left now", number(-2), {}), ("left soon", number(1), {}), ("left ever", number(-1), {}),
                ("left x", number(-2), {}), ("left late", number(10 ** 15 - 50), {}))
        self.at(0, KEPT, ("left gone", number(20), {}), ("left late", number(10 ** 15), {}))
        self.at_each_time(("persist gone", number(1), {"gone": until("gone", None)}), ("persist late", number(1), {"late": until("late", None)}),
                          ("persist ever", number(0), {}), ("persist x", number(0), {}))

    def test_keys_and_size_and_clear(self):
        self.at(None, KEPT, ("keys *", texts(*NAMES), {}), ("keys ''", texts(), {}), ("keys *e", texts("gone", "late"), {}))
        self.at(50, KEPT, ("keys *", texts("ever", "late", "soon"), {}), ("keys ?o*", texts("soon"), {}), ("keys [es]*", texts("ever", "soon"), {}),
                ("keys now", texts(), {}), ("keys %s" % ("*" * 200), texts("ever", "late", "soon"), {}), ("size", number(3), {}))
        self.at_each_time(("clear", DONE, {key: None for key in NAMES}))
        self.at(5, {}, ("clear", DONE, {}), ("keys *", texts(), {}), ("size", number(0), {}))

    def test_refused(self):
        for value in not_commands():
            for entries, now in (({}, 5), (None, None), ({"": 1}, -1)):
                self.refused(InvalidCommand, None, do_keys, value, entries, now)
        wrong = [words_of(line) for line in LINES if line.split(" ")[0] not in WORDS]
        wrong += [("nope",), ("expire", "k", "5", "x"), ("expireat", "k", "-1"), ("scan", "65536"), ("size", "a"), ("del",), ("keys",), ("copy", "a", "")]
        for command in wrong:
            for entries, now in (({}, 5), (None, None), ({}, -1), ({}, None)):
                self.refused(InvalidCommand, None, do_keys, command, entries, now)
        for command in (("expire", "k", "5"), ("left", "k"), ("expire", "k", str(MOST))):
            for entries in ({}, None):
                self.refused(InvalidCommand, None, do_keys, command, entries)
                self.refused(InvalidCommand, None, do_keys, command, entries, None)
        right = [words_of(line) for line in LINES if line.split(" ")[0] in WORDS]
        self.assertEqual(len(right), 14)
        for command in right:
            for value in not_stores():
                self.refused(InvalidStore, None, do_keys, command, value, 5)
                self.refused(InvalidStore, None, do_keys, command, value, -1)
            for value in not_times():
                if value is not None:
                    self.refused(InvalidTime, value, do_keys, command, {"k": ENTRIES["text"]}, value)

    def test_it_looks_at_no_number_of_keys(self):
        kept = {"k%d" % at: ENTRIES["text"] for at in range(200)}
        self.assertEqual(len(do_keys(("copy", "k0", "x"), kept)[1]), 201)
        self.assertEqual(len(do_keys(("copy", "k0", "x"), kept, 5)[1]), 201)


class Scans(PlainCase):
    def test_small_ones(self):
        # Spots: d 9728, b 17920, a 34304, c 50688.
        kept = {"a": ENTRIES["text"], "b": ENTRIES["set"], "c": ("text", "", 50), "d": ("list", ("x",), 49)}
        for line, now, told in (
            ("scan 0", 48, scanned(0, "d", "b", "a", "c")), ("scan 0", 49, scanned(0, "b", "a", "c")), ("scan 0", 50, scanned(0, "b", "a")),
            ("scan 0", None, scanned(0, "d", "b", "a", "c")), ("scan 0 count 1", 48, scanned(9729, "d")), ("scan 9728 count 1", 48, scanned(9729, "d")),
            ("scan 9729 count 1", 48, scanned(17921, "b")), ("scan 34304 count 1", 48, scanned(34305, "a")), ("scan 34304 count 1", 50, scanned(0, "a")),
            ("scan 50688", 48, scanned(0, "c")), ("scan 50689", 48, scanned(0)), ("scan 65535 count 1000", 48, scanned(0)),
            ("scan 0 count 2 match [ac]", 48, scanned(17921)), ("scan 0 match [ac]", 48, scanned(0, "a", "c")), ("scan 0 kind text", 48, scanned(0, "a", "c")),
            ("scan 0 kind map", 48, scanned(0)), ("scan 0 kind text match ? count 3", 48, scanned(34305, "a")), ("scan 0 match x", 48, scanned(0)),
            ("scan 0 count 4", 48, scanned(0, "d", "b", "a", "c")), ("scan 0 count 1000 match ''", 48, scanned(0)),
        ):
            self.does(lambda command, entries: do_keys(command, entries, now), words_of(line), kept, told, kept)
        self.does(do_keys, ("scan", "0"), {}, scanned(0), {})

    def test_equal_spots(self):
        names = ("ac", "bB", "acac", "acbB", "bBac", "bBbB", "a", "b")
        self.assertEqual(len({spot_of(name) for name in names}), 4)
        kept = {name: ENTRIES["text"] for name in names}
        told, cursor = [], "0"
        for _ in range(4):
            reply = do_keys(("scan", cursor, "count", "1"), kept)[0]
            cursor = reply[1][0][1]
            told.append([one for _, one in reply[1][1][1]])
        self.assertEqual(cursor, "0")
        self.assertEqual(sorted(map(tuple, told)), [("a",), ("ac", "bB"), ("acac", "acbB", "bBac", "bBbB"), ("b",)])
        place = model.spot_of("acac")
        self.assertEqual(do_keys(("scan", str(place), "count", "2", "match", "*B"), kept)[0][1][1], texts("acbB", "bBbB"))

    def test_each_cursor_and_each_count(self):
        names = ("ac", "bB", "a", "b", "c", "d", "l1", "l2")
        kept = {name: (*ENTRIES[kind][:2], told) for name, kind, told in zip(names, itertools.cycle(KINDS), itertools.cycle((None, 5, 6)))}
        spots = {max(0, min(65535, spot_of(name) + more)) for name in names for more in (-1, 0, 1)} | {0, 65535}
        for now in (None, 4, 5, 6):
            there = {name: entry for name, entry in kept.items() if now is None or entry[2] is None or entry[2] > now}
            for cursor, count in itertools.product(sorted(spots), range(1, 10)):
                for more in ((), ("match", "?"), ("kind", "set"), ("match", "*B", "kind", "map")):
                    command = ("scan", str(cursor), "count", str(count), *more)
                    self.assertEqual(do_keys(command, kept, now), (Timed(there).reply(command), kept))

    def test_with_commands_between(self):
        pick = chance(15)
        for _ in range(40):
            entries, now = {"k%d" % at: ("text", "", pick.choice((None, None, 20))) for at in range(pick.randrange(60))}, 0
            always, told, cursor = set(entries), [], "0"
            while True:
                reply, entries, _ = do(("scan", cursor, "count", str(pick.randrange(1, 9))), entries, now)
                told += [name for _, name in reply[1][1][1]]
                self.assertLessEqual(set(told[-len(reply[1][1][1]):] if reply[1][1][1] else ()), set(shown(entries, now)))
                always &= set(shown(entries, now))
                cursor = reply[1][0][1]
                if cursor == "0":
                    break
                now += pick.randrange(5)
                for name in ["k%d" % pick.randrange(70) for _ in range(4)]:
                    command = pick.choice((("del", name), ("set", name, "x"), ("rename", name, "n" + name), ("expire", name, "3")))
                    _, entries, _ = do(command, entries, now)
            self.assertEqual(len(told), len(set(told)))
            self.assertLessEqual(always, set(told))

    def test_whole_scans(self):
        pick = chance(14)
        for _ in range(25):
            names = ["".join(pick.choice("acbBCz") for _ in range(pick.randrange(1, 5))) for _ in range(pick.randrange(60))]
            kept = {name: (*ENTRIES[pick.choice(KINDS)][:2], pick.choice((None, None, 30, 60))) for name in names}
            shown = {name: entry for name, entry in kept.items() if entry[2] != 30}
            for count, kind in itertools.product((1, 2, 7, 10, 1000), (None, "set")):
                command = ["scan", "0", "count", str(count), *(["kind", kind] if kind else [])]
                told, spots = [], []
                while True:
                    reply, after = do_keys(tuple(command), kept, 30)
                    self.assertEqual(after, kept)
                    page = [one for _, one in reply[1][1][1]]
                    spots += [spot_of(name) for name in page]
                    told += page
                    command[1] = reply[1][0][1]
                    if command[1] == "0":
                        break
                self.assertEqual(spots, sorted(spots))
                self.assertEqual(sorted(told), sorted(name for name in shown if kind in (None, shown[name][0])))
            usual, ten = do_keys(("scan", "0"), kept, 30), do_keys(("scan", "0", "count", "10"), kept, 30)
            self.assertEqual(usual, ten)
