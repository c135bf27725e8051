"""Long runs of commands, blocks and sweeps at a store, beside a plain model and beside `do`."""

import collections

from deedline.plain.grammar import WORDS, does_write
from deedline.plain.store import apply, changed_keys, is_deed, is_line, replay, shown
from deedline.shape.entries import is_store, store_size
from deedline.shape.packs import Bounds
from deedline.store.core import Store
from deedline.store.room import POLICIES
from tests.commands import FIRST_LETTERS
from tests.helpers import Case, chance
from tests.model_store import PlainStore, Times, plain_size

MOST_WORDS = [word for word in WORDS if word != "clear"]
SHAPE_WORDS = {"text": ("text",), "list": ("nodes",), "set": ("row", "table"), "map": ("row", "table"), "sorted": ("row", "skips")}
SHAPES = (None, Bounds(1, 1, 0, 0), Bounds(3, 9, 2, 3), Bounds(64, 1000, 200, 200))


class Runs(Case):
    def alike(self, store, model):
        """The store tells just what the model tells."""
        self.assertEqual((store.kept(), list(store.kept()), list(store)), (model.kept, sorted(model.kept), sorted(model.kept)))
        self.assertEqual((store.place, store.now, store.last, store.size), (model.place, model.now, model.last, plain_size(model.kept)))
        self.assertEqual((store.marks(), list(store.marks())), (model.marks, sorted(model.marks)))
        self.assertEqual(store.units[-1:], tuple(model.units[-1:]))
        if model.units:
            self.assertEqual(store.changed(store.place - 1), model.changed[-1])

    def step(self, times, seen, *pairs):
        """Does one thing at some stores and their models."""
        pick = times.pick
        what = pick.random()
        if what < 0.12:
            times.now += pick.choice((0, 1, 5))
            commands = tuple(times.command(False) for _ in range(pick.randrange(6)))
            for store, model in pairs:
                replies = model.block(commands, times.now)
                told = ("error", "room") if replies is None else ("list", replies)
                self.assertEqual(store.block(commands, times.now), told, commands)
                seen["block", told[1] == "room"] += 1
        elif what < 0.2 and len(pairs) == 1:
            times.now += pick.choice((0, 1, 5))
            budget = pick.choice((0, 1, 2, 200))
            (store, model), = pairs
            before = store.shown(times.now)
            self.assertEqual(store.sweep(times.now, budget), model.sweep(times.now, budget))
            self.assertEqual(store.shown(times.now), before)
        else:
            command = times.command()
            for store, model in pairs:
                told = model.call(command, times.now)
                self.assertEqual(store.call(command, times.now), told, (command, times.now))
                seen[command[0], told == ("error", "room")] += 1

    def end(self, store, model, first):
        """What holds of a whole run."""
        self.assertEqual(store.units, tuple(model.units))
        self.assertIs(is_line(store.units), True)
        self.assertEqual([store.changed(store.begin + at) for at in range(len(model.units))], model.changed)
        self.assertEqual(replay(store.units, first), store.kept())
        self.assertIs(is_store(store.kept()), True)
        other = Store(first, place=store.begin)
        for at, unit in enumerate(store.units):
            self.assertEqual(other.apply(unit), model.changed[at])
            self.assertEqual(other.kept(), replay(store.units[:at + 1], first) if at % 9 == 0 else other.kept())
        self.assertTrue(other == store and not other != store)

    def test_beside_the_model(self):
        seen = collections.Counter()
        for seed in range(12):
            times = Times(seed, [*MOST_WORDS, "set", "expire", "expireat"] if seed % 3 else list(WORDS), keys=2, astray=0.08)
            store, model = Store(bounds=SHAPES[seed % 4]), PlainStore()
            for _ in range(160):
                self.step(times, seen, (store, model))
                self.alike(store, model)
                at = times.pick.randrange(2 * times.now + 2)
                self.assertEqual(store.shown(at), shown(model.kept, at))
            self.end(store, model, {})
        self.assertEqual({word for word, _ in seen}, {*WORDS, "block"})

    def test_units_of_another_store(self):
        # Its deeds change other entries here, or none, or reply with an error.
        for seed in range(12):
            times = Times(seed + 600, [word for word in WORDS if does_write((word,)) and (word != "clear" or seed % 4 == 0)], keys=2, astray=0.2)
            stores = [Store(bounds=SHAPES[seed % 4]), Store({"t0": ("list", ("x",), 3), "l0": ("list", ("a", "b"), None)}, bounds=SHAPES[seed % 4], bound=90, place=5)]
            first, line = [store.kept() for store in stores], [[], []]
            for _ in range(120):
                at = times.pick.randrange(2)
                one, other = stores[at], stores[1 - at]
                place = one.place
                one.call(times.command(), times.now)
                deeds = tuple(command for command in (times.command(), times.command()) if is_deed(command))
                for unit in [*one.units_from(place), *[(times.now, deeds)] * bool(deeds)]:
                    before = other.kept()
                    changed = []
                    for deed in unit[1]:
                        changed.append(changed_keys(before, deed))
                        before = apply(before, deed)
                    self.assertEqual((other.apply(unit), other.kept(), list(other)), (tuple(changed), before, sorted(before)))
                    for key in before:
                        self.assertIn(other.shape_at(key), SHAPE_WORDS[before[key][0]])
            for store, entries in zip(stores, first):
                self.assertEqual(replay(store.units, entries), store.kept())

    def test_with_room_near_the_size(self):
        seen = collections.Counter()
        for seed in range(18):
            policy = POLICIES[seed % 3]
            first = {"t9": ("text", "x" * 30, None), "l9": ("list", ("a", "b"), 40), "s9": ("set", ("a",), 9)}
            times = Times(seed + 50, [*MOST_WORDS, "set", "set", "expireat", "sadd", "pushr", "zadd", "hset"], keys=3)
            bound = times.pick.randrange(120, 700)
            store, model = Store(first, bound=bound, policy=policy, place=7, now=2), PlainStore(first, bound, policy, 7, 2)
            times.now = 2
            for _ in range(140):
                before, size = store.twin(), store.size
                self.step(times, seen, (store, model))
                self.alike(store, model)
                self.assertLessEqual(store.size, bound)
                self.fewest(store, before, bound, seen)
                if store.place == before.place:
                    self.assertEqual((store.kept(), store.units, store.size), (before.kept(), before.units, size))
            self.end(store, model, first)
        for policy in POLICIES:
            self.assertEqual(seen[policy, "out"] > 0, policy != "refuse", policy)
        self.assertTrue(seen["block", True] and seen["set", True] and seen["gone"] > 9)

    def fewest(self, store, before, bound, seen):
        """Of the keys that were put out for room at the end of the last unit one fewer would not do."""
        if store.place == before.place:
            return
        deeds = store.units[-1][1]
        if deeds[-1][0] == "out":
            kept = replay(((store.now, deeds[:-1]),) if deeds[:-1] else (), before.kept())
            self.assertGreater(store_size(kept), bound)
            seen[store.policy, "out"] += 1
        seen["gone"] += deeds[-1][0] == "gone"

    def test_no_reply_hangs_on_shapes_or_sweeps(self):
        for seed in range(8):
            times = Times(seed + 90, [*MOST_WORDS, "set", "expireat", "sadd", "zadd", "hset"], keys=2)
            stores = [Store(bounds=bounds) for bounds in SHAPES]
            swept = Store(bound=2500, policy="refuse")
            for _ in range(150):
                command = times.command()
                replies = [store.call(command, times.now) for store in stores]
                self.assertEqual(replies, [replies[0]] * len(stores))
                if times.pick.random() < 0.3:
                    swept.sweep(times.now, times.pick.randrange(4))
                if swept.call(command, times.now) != ("error", "room"):
                    self.assertEqual(swept.call(("keys", "*"), times.now), stores[0].call(("keys", "*"), times.now))
                else:
                    break
                self.assertEqual(swept.shown(times.now), stores[0].shown(times.now))
            self.assertEqual(len({store.units for store in stores}), 1)

    def test_which_keys_are_put_out_hangs_on_no_sweep(self):
        for seed in range(9):
            policy = POLICIES[seed % 3]
            times = Times(seed + 130, ["set", "setall", "sadd", "pushr", "hset", "zadd", "get", "expireat", "del", "copy", "rename", "exists"], keys=3)
            one, other = Store(bound=420, policy=policy), Store(bound=420, policy=policy)
            for _ in range(200):
                command = times.command()
                if times.pick.random() < 0.4:
                    other.sweep(times.now, times.pick.choice((1, 2, 200)))
                self.assertEqual(one.call(command, times.now), other.call(command, times.now))
                self.assertEqual(one.shown(times.now), other.shown(times.now))
                out = [[deed for _, deeds in store.units for deed in deeds if deed[0] == "out"] for store in (one, other)]
                self.assertEqual(*out)

    def test_going_on_from_snapshots_and_twins(self):
        for seed in range(6):
            times = Times(seed + 200, MOST_WORDS, keys=2)
            store, model, seen = Store(bound=900, policy=POLICIES[seed % 3]), PlainStore(None, 900, POLICIES[seed % 3]), collections.Counter()
            for turn in range(120):
                if turn % 20 == 7:
                    twin = store.twin()
                    self.assertTrue(twin == store)
                    self.assertEqual([twin.shape_at(key) for key in twin], [store.shape_at(key) for key in store])
                    twin.call(("clear",), times.now + 1000)
                    twin.call(("set", "t1", "x"), times.now + 1000)
                    self.alike(store, model)
                    store = store.twin() if times.pick.random() < 0.5 else store
                if turn % 20 == 17:
                    snapshot = store.snapshot()
                    self.assertEqual(snapshot, (model.kept, model.place, model.last))
                    bound, policy = times.pick.choice(((900, "idle"), (None, "nearest"), (950, "refuse")))
                    bound = bound if bound is None else max(bound, store.size)
                    store = Store.loaded(snapshot, bound=bound, policy=policy, bounds=times.pick.choice(SHAPES))
                    self.assertEqual((store.bound, store.policy, store.begin, store.units, store.marks()), (bound, policy, model.place, (), {}))
                    self.assertTrue(store == store.twin())
                    model = PlainStore(snapshot[0], bound, policy, snapshot[1], snapshot[2])
                self.step(times, seen, (store, model))
                self.alike(store, model)

    def test_shapes(self):
        # [6.2], [8.3]: what was ever put into a value, and how many members it had, tells its shape.
        for seed in range(10):
            times = Times(seed + 300, "sadd srem smove spop zadd zrem zraise zpop hset hdel hadd set copy rename sunionto zunionto del grab".split(), keys=2)
            bounds = Bounds(3, 9, 2, 3)
            store, made = Store(bounds=bounds), {}
            for _ in range(120):
                command = times.command()
                before = store.kept()
                store.call(command, times.now)
                after = store.kept()
                made = self.shapes(bounds, command, before, after, made, store)
                self.assertEqual({key: store.shape_at(key) for key in store}, {key: word for key, (word, _) in made.items()}, command)
            self.assertIsNone(store.shape_at("none"))

    def shapes(self, bounds, command, before, after, made, store):
        """The shape word of each key, and whether it turned: from the plain entries ahead of a command and behind it."""
        told = {}
        for key, (kind, value, _) in after.items():
            texts = [part for member in value for part in (member if type(member) is tuple else (member,)) if type(part) is str]
            few = len(value) <= bounds.members
            if kind == "set":
                can_be = few and all(text.lstrip("-").isdigit() and str(int(text)) == text and -(2 ** 63) <= int(text) < 2 ** 63 for text in texts)
            else:
                can_be = few and all(len(text) <= bounds.wide for text in texts)
            words = {"text": "text", "list": "nodes", "set": "row", "sorted": "row", "map": "row"}
            turned = {"set": "table", "sorted": "skips", "map": "table"}
            was = made.get(key, ("", False))[1] if key in before and before[key][0] == kind else False
            if key in before and before[key] != after[key] and command[0] in ("copy", "sunionto", "zunionto"):
                was = False
            if command[0] == "rename" and key == command[2] and command[1] in before and command[1] not in after:
                was = made[command[1]][1]
            if command[0] == "hset" and key == command[1] and before.get(key) != after[key]:
                was = was or any(len(text) > bounds.wide for text in command[2:])
            is_turned = kind in turned and (was or not can_be)
            told[key] = (turned[kind] if is_turned else words[kind], is_turned)
        return told

    def test_a_scan_between_all_else(self):
        for seed in range(6):
            times = Times(seed + 400, MOST_WORDS, keys=9)
            store, pick = Store(bounds=SHAPES[seed % 4]), chance(seed)
            for _ in range(60):
                store.call(times.command(), times.now)
            cursor, told, always = "0", [], set(store.shown(times.now))
            while True:
                _, (one, names) = store.call(("scan", cursor, "count", str(pick.randrange(1, 4))), times.now)
                told += [name for _, name in names[1]]
                always &= set(store.shown(times.now))
                cursor = one[1]
                if cursor == "0":
                    break
                for _ in range(3):
                    store.call(times.command(), times.now)
                always &= set(store.shown(times.now))
            self.assertEqual(len(told), len(set(told)))
            self.assertLessEqual(always, set(told))
            self.assertTrue({name[0] for name in told} <= set(FIRST_LETTERS.values()))
