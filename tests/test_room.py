"""Stage 18: running out, room and the order of putting out."""

import copy
import itertools

from deedline.errors import InvalidNumber, InvalidOperation, InvalidStore, InvalidText, InvalidTime
from deedline.plain.store import replay
from deedline.shape.entries import entry_size, store_size
from deedline.store import room
from deedline.store.room import Marks, order_out, room_deeds, run_out, sweep_deeds
from tests.helpers import ENTRIES, Case, chance, not_integers, not_keys, not_stores, not_times, values

KEPT = {"a": ("text", "xx", 40), "b": ("text", "y", None), "c": ("text", "", 90), "d": ("text", "zzz", 20), "e": ("text", "", 40)}
MARKS = {"a": 7, "b": 2, "d": 1, "other": 5}
NO_MARKS = [value for value in values() if value != {} or type(value) is not dict]
NO_MARKS += [{"": 1}, {"k" * 41: 1}, {"a": -1}, {"a": True}, {"a": False}, {"a": "1"}, {"a": None}, {1: 1}, {"a": 1, "b": []}, [("a", 1)], {None: 1}]
POLICIES = ("idle", "nearest", "refuse")


def no_policies():
    return [*values(), "Idle", "", "idle ", ("idle",), ["refuse"]]


class Orders(Case):
    def test_constants(self):
        self.assertEqual(room.POLICIES, POLICIES)

    def test_run_out(self):
        for now, keys in ((0, ""), (19, ""), (20, "d"), (39, "d"), (40, "dae"), (89, "dae"), (90, "daec"), (10 ** 15, "daec")):
            self.assertEqual(run_out(KEPT, now), tuple(keys))
            self.assertEqual(run_out(dict(reversed(KEPT.items())), now), tuple(keys))
        self.assertEqual(run_out({}, 5), ())
        names = {"b": 5, "a": 6, "B": 5, "aa": 5, "z": 0}
        self.assertEqual(run_out({name: ("text", "", until) for name, until in names.items()}, 6), ("z", "B", "aa", "b", "a"))

    def test_sweep_deeds(self):
        for now, keys in ((19, ""), (20, "d"), (40, "dae"), (90, "daec")):
            for budget in (0, 1, 2, 3, 4, 5, 200):
                self.assertEqual(sweep_deeds(KEPT, now, budget), tuple(("gone", key) for key in keys[:budget]))

    def test_order_out(self):
        for now, policy, marks, keys in (
            (0, "refuse", MARKS, ""), (0, "nearest", MARKS, "daec"), (0, "idle", MARKS, "cedba"), (0, "idle", {}, "abcde"), (20, "nearest", {}, "aec"),
            (30, "idle", MARKS, "ceba"), (40, "nearest", MARKS, "c"), (40, "idle", MARKS, "cb"), (90, "nearest", {}, ""), (90, "idle", {"b": 0}, "b"),
            (0, "idle", {"a": 0, "c": 10 ** 30, "b": 5, "e": 5, "d": 0}, "adbec"),
        ):
            self.assertEqual(order_out(KEPT, now, policy, marks), tuple(keys))
            self.assertEqual(order_out(dict(reversed(KEPT.items())), now, policy, marks), tuple(keys))

    def test_nothing_changes(self):
        kept, marks = copy.deepcopy(KEPT), dict(MARKS)
        for policy in POLICIES:
            order_out(kept, 30, policy, marks)
            room_deeds(kept, 30, 1, policy, marks, ("a",))
        self.assertEqual((kept, marks, list(kept), list(marks)), (KEPT, MARKS, list(KEPT), list(MARKS)))

    def test_refused(self):
        for value in not_stores():
            self.refused(InvalidStore, None, run_out, value, None)
            self.refused(InvalidStore, None, sweep_deeds, value, None, None)
            self.refused(InvalidStore, None, order_out, value, None, None, None)
            self.refused(InvalidStore, None, room_deeds, value, None, None, None, None, None)
        for value in not_times():
            self.refused(InvalidTime, value, run_out, KEPT, value)
            self.refused(InvalidTime, value, sweep_deeds, KEPT, value, None)
            self.refused(InvalidTime, value, order_out, KEPT, value, None, None)
            self.refused(InvalidTime, value, room_deeds, KEPT, value, None, None, None, None)
        for value in not_integers(0, 200):
            self.refused(InvalidNumber, value, sweep_deeds, KEPT, 5, value)
        for value in [*not_integers(1, 10 ** 12), 10 ** 12 + 1]:
            self.refused(InvalidNumber, value, room_deeds, KEPT, 5, value, None, None, None)
        for value in no_policies():
            self.refused(InvalidOperation, None, order_out, KEPT, 5, value, {})
            self.refused(InvalidOperation, None, room_deeds, KEPT, 5, 10 ** 12, value, {}, ())
        for value in NO_MARKS:
            for policy in POLICIES:
                self.refused(InvalidOperation, None, order_out, KEPT, 5, policy, value)
                self.refused(InvalidOperation, None, room_deeds, KEPT, 5, 10 ** 12, policy, value, ())
        for value in [*[value for value in values() if value != () and type(value) is not tuple], ["a"], ("",), ("a", "k" * 41), ("a", 1), ("a", None), (("a",),)]:
            self.refused(InvalidOperation, None, room_deeds, KEPT, 5, 10 ** 12, "refuse", {}, value)


class Room(Case):
    def test_the_order(self):
        # Sizes: a 19, b 18, c 17, d 20, e 17: 91 together.
        self.assertEqual([entry_size(key, KEPT[key]) for key in "abcde"], [19, 18, 17, 20, 17])
        for now, bound, policy, named, told in (
            (0, 91, "idle", "", ""), (0, 90, "refuse", "", None), (0, 90, "idle", "", "-c"), (0, 74, "idle", "", "-c"), (0, 73, "idle", "", "-c -e"),
            (0, 90, "nearest", "", "-d"), (0, 71, "nearest", "", "-d"), (0, 70, "nearest", "", "-d -a"), (0, 18, "nearest", "", "-d -a -e -c"),
            (0, 17, "nearest", "", None), (0, 17, "idle", "", "-c -e -d -b -a"), (0, 1, "idle", "", "-c -e -d -b -a"), (0, 18, "idle", "b", "-c -e -d -a"),
            (0, 17, "idle", "b", None), (0, 90, "idle", "cc", "-e"), (0, 19, "nearest", "a", None), (0, 37, "nearest", "a", "-d -e -c"),
            (20, 90, "refuse", "", "d"), (20, 71, "refuse", "", "d"), (20, 70, "refuse", "", None), (20, 91, "refuse", "", ""), (20, 70, "nearest", "", "d -a"),
            (40, 90, "refuse", "", "d"), (40, 70, "refuse", "", "d a"), (40, 51, "refuse", "", "d a e"), (40, 35, "refuse", "", "d a e"),
            (40, 34, "refuse", "", None), (40, 34, "idle", "", "d a e -c"), (40, 17, "idle", "", "d a e -c -b"), (40, 34, "nearest", "", "d a e -c"),
            (40, 17, "nearest", "", None), (40, 34, "idle", "c", "d a e -b"), (40, 35, "idle", "dae", "d a e"), (90, 18, "refuse", "abcde", "d a e c"),
            (90, 17, "idle", "b", None), (90, 17, "idle", "", "d a e c -b"), (40, 16, "idle", "x", "d a e -c -b"),
        ):
            for kept in (KEPT, dict(reversed(KEPT.items()))):
                deeds = room_deeds(kept, now, bound, policy, MARKS, tuple(named))
                if told is not None:
                    told_deeds = tuple(("out", key[1]) if key[0] == "-" else ("gone", key) for key in told.split(" ") if key)
                self.assertEqual(deeds, None if told is None else told_deeds, (now, bound, policy, named))
        self.assertEqual(room_deeds({}, 5, 1, "refuse", {}, ("a",)), ())

    def test_as_few_deeds_as_are_enough(self):
        pick = chance(18)
        names = ["a", "b", "c", "dd", "e", "ff"]
        for _ in range(300):
            kept = {name: (*ENTRIES[pick.choice(sorted(ENTRIES))][:2], pick.choice((None, None, 10, 20, 30, 40))) for name in names if pick.random() < 0.8}
            marks = {name: pick.randrange(4) for name in names if pick.random() < 0.7}
            named = tuple(name for name in names if pick.random() < 0.3)
            now, policy, bound = pick.choice((5, 10, 25, 40)), pick.choice(POLICIES), pick.randrange(1, 260)
            over = sorted((entry[2], name) for name, entry in kept.items() if entry[2] is not None and entry[2] <= now)
            out = [(marks.get(name, 0) if policy == "idle" else kept[name][2], name) for name in kept
                   if policy == "idle" or kept[name][2] is not None and policy == "nearest"]
            out = [pair for pair in out if pair[1] not in named and pair[1] not in [name for _, name in over]]
            ways = [("gone", name) for _, name in over] + [("out", name) for _, name in sorted(out)]
            self.assertEqual(order_out(kept, now, policy, marks), tuple(name for _, name in sorted(
                out + [(marks.get(name, 0) if policy == "idle" else kept[name][2], name) for name in named if name in kept and name not in
                       [one for _, one in over] and (policy == "idle" or policy == "nearest" and kept[name][2] is not None)])))
            enough = [many for many in range(len(ways) + 1) if store_size(replay(((now, tuple(ways[:many])),) if many else (), kept)) <= bound]
            told = room_deeds(kept, now, bound, policy, marks, named)
            self.assertEqual(told, tuple(ways[:enough[0]]) if enough else None)


class Marking(Case):
    def told(self, marks):
        return (marks.table(), len(marks), [marks.mark_of(key) for key in ("a", "b", "c", "k" * 40)])

    def test_using_and_forgetting(self):
        marks = Marks()
        self.assertEqual(self.told(marks), ({}, 0, [0, 0, 0, 0]))
        self.assertEqual([marks.use("b", "a"), marks.use(), marks.use("a", "a"), marks.use("k" * 40)], [1, 2, 3, 4])
        self.assertEqual(self.told(marks), ({"a": 3, "b": 1, "k" * 40: 4}, 4, [3, 1, 0, 4]))
        self.assertEqual(list(marks.table()), ["a", "b", "k" * 40])
        self.assertEqual([marks.forget("x"), marks.forget(), marks.forget("a", "a", "c"), marks.forget("a", "b")], [0, 0, 1, 1])
        self.assertEqual(self.told(marks), ({"k" * 40: 4}, 4, [0, 0, 0, 4]))
        self.assertEqual(marks.use("a"), 5)
        self.assertEqual(self.told(marks), ({"a": 5, "k" * 40: 4}, 5, [5, 0, 0, 4]))

    def test_twins(self):
        marks = Marks()
        marks.use("a")
        twin = marks.twin()
        self.assertIs(twin == marks, True)
        self.assertEqual(self.told(twin), self.told(marks))
        twin.use("b")
        twin.forget("a")
        self.assertEqual(self.told(marks), ({"a": 1}, 1, [1, 0, 0, 0]))
        self.assertEqual(self.told(twin), ({"b": 2}, 2, [0, 2, 0, 0]))
        self.assertIs(twin == marks, False)
        self.assertIs(twin != marks, True)
        marks.table()["a"] = 9
        self.assertEqual(marks.mark_of("a"), 1)
        other = Marks()
        self.assertIs(other == marks, False)
        other.use("a")
        self.assertIs(other == marks, True)
        other.use()
        self.assertIs(other == marks, False)
        marks.use("b")
        self.assertEqual(len(other), len(marks))
        self.assertIs(other == marks, False)
        self.unlike(marks)

    def test_a_long_run(self):
        pick = chance(19)
        marks, plain, count = Marks(), {}, 0
        for _ in range(400):
            keys = [pick.choice("abcdef") for _ in range(pick.randrange(4))]
            if pick.random() < 0.6:
                count += 1
                self.assertEqual(marks.use(*keys), count)
                plain.update(dict.fromkeys(keys, count))
            else:
                self.assertEqual(marks.forget(*keys), len(set(keys) & set(plain)))
                plain = {key: plain[key] for key in plain if key not in keys}
            self.assertEqual((marks.table(), list(marks.table()), len(marks)), (plain, sorted(plain), count))

    def test_refused(self):
        marks = Marks()
        marks.use("a", "b")
        before = self.told(marks)
        for value in not_keys():
            self.refused(InvalidText, value, marks.mark_of, value)
            for call, keys in itertools.product((marks.use, marks.forget), ((value,), ("a", value, None), ("c", "a", value))):
                self.refused(InvalidText, value, call, *keys)
        self.assertEqual(self.told(marks), before)
