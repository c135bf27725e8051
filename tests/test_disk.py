"""Stage 20: a disk."""

import itertools

from deedline.disk.disk import Disk
from deedline.errors import InvalidNumber, InvalidOperation, InvalidText, PowerLost, UnknownName
from tests.helpers import Case, chance, not_keys, values


def told(disk):
    """All that a disk tells of itself."""
    return (disk.names, [(name, disk.read(name), disk.unsynced(name)) for name in disk.names], disk.name_steps,
            [list(disk.names_after(many).items()) for many in range(disk.name_steps + 1)], disk.done, disk.left)


def found(disk):
    """The signs of each file of a disk."""
    return {name: disk.read(name) for name in disk.names}


def not_signs():
    """Values that are no strings of printable signs and newlines."""
    return [value for value in values() if type(value) is not str] + ["\t", "a\r", "\x7f", "\x00"]


def not_counts():
    return [value for value in values() if type(value) is not int or value < 0]


class PlainDisk:
    """A plain model: each file has a number, and the names are kept behind each name step."""

    def __init__(self, steps=None):
        self.texts, self.synced, self.states, self.done, self.left = [], [], [{}], 0, steps

    def do(self, word, *args):
        """Does a step, or raises PowerLost."""
        if self.left is not None and self.done == self.left:
            raise PowerLost(self.done)
        self.done += 1
        names = dict(self.states[-1])
        if word == "create":
            names[args[0]] = len(self.texts)
            self.texts.append("")
            self.synced.append(0)
        elif word == "append":
            self.texts[names[args[0]]] += args[1]
        elif word == "sync":
            self.synced[names[args[0]]] = len(self.texts[names[args[0]]])
        elif word == "rename":
            names[args[1]] = names.pop(args[0])
        elif word == "remove":
            del names[args[0]]
        if word in ("create", "rename", "remove"):
            self.states.append(names)
        elif word == "sync_names":
            self.states = self.states[-1:]

    def told(self):
        names = self.states[-1]
        open_signs = [[(name, len(self.texts[state[name]]) - self.synced[state[name]]) for name in sorted(state)] for state in self.states]
        left = None if self.left is None else self.left - self.done
        return (tuple(sorted(names)), [(name, self.texts[names[name]], many) for name, many in open_signs[-1]], len(self.states) - 1, open_signs, self.done, left)

    def after(self, many, signs):
        state = self.states[many]
        return {name: self.texts[state[name]][:self.synced[state[name]] + signs.get(name, 0)] for name in state}


class Steps(Case):
    def test_example(self):
        disk = Disk()
        self.assertEqual([disk.create("log"), disk.append("log", "ab"), disk.sync("log"), disk.append("log", "cd")], [None, None, None, None])
        self.assertEqual((disk.read("log"), disk.unsynced("log"), disk.done, disk.left, disk.name_steps), ("abcd", 2, 4, None, 1))
        self.assertEqual((disk.names_after(0), disk.names_after(1)), ({}, {"log": 2}))
        self.assertEqual([found(disk.after(0, {})), found(disk.after(1, {})), found(disk.after(1, {"log": 1})), found(disk.after(1, {"log": 2}))], [{}, {"log": "ab"}, {"log": "abc"}, {"log": "abcd"}])

    def test_each_kind(self):
        disk = Disk()
        self.assertEqual(told(disk), ((), [], 0, [[]], 0, None))
        disk.create("b")
        disk.append("b", "x\ny")
        disk.append("b", "")
        self.assertEqual(told(disk), (("b",), [("b", "x\ny", 3)], 1, [[], [("b", 3)]], 3, None))
        self.assertIsNone(disk.sync_names())
        disk.sync("b")
        self.assertIsNone(disk.rename("b", "a"))
        disk.append("a", "z")
        self.assertEqual(told(disk), (("a",), [("a", "x\nyz", 1)], 1, [[("b", 1)], [("a", 1)]], 7, None))
        disk.create("a")
        self.assertEqual(told(disk), (("a",), [("a", "", 0)], 2, [[("b", 1)], [("a", 1)], [("a", 0)]], 8, None))
        self.assertIsNone(disk.remove("a"))
        self.assertEqual(told(disk), ((), [], 3, [[("b", 1)], [("a", 1)], [("a", 0)], []], 9, None))
        self.assertEqual([found(disk.after(at, {})) for at in range(4)], [{"b": "x\ny"}, {"a": "x\ny"}, {"a": ""}, {}])
        self.assertEqual(found(disk.after(1, {"a": 1})), {"a": "x\nyz"})
        self.assertEqual(found(disk.after(0, {"b": 1})), {"b": "x\nyz"})
        disk.sync_names()
        self.assertEqual(told(disk)[:4], ((), [], 0, [[]]))

    def test_names_that_other_files_lose(self):
        disk = Disk()
        for name in ("one", "two"):
            disk.create(name)
            disk.append(name, name)
        disk.sync_names()
        disk.rename("one", "two")
        self.assertEqual((disk.names, disk.read("two"), disk.unsynced("two")), (("two",), "one", 3))
        disk.sync("two")
        self.assertEqual([disk.names_after(0), disk.names_after(1)], [{"one": 0, "two": 3}, {"two": 0}])
        self.assertEqual([found(disk.after(0, {"two": 2})), found(disk.after(1, {}))], [{"one": "one", "two": "tw"}, {"two": "one"}])

    def test_renaming_to_the_same_name(self):
        disk = Disk()
        disk.create("a")
        disk.append("a", "xy")
        disk.sync_names()
        disk.rename("a", "a")
        self.assertEqual((disk.names, disk.read("a"), disk.name_steps, disk.done, disk.names_after(0), disk.names_after(1)), (("a",), "xy", 1, 4, {"a": 2}, {"a": 2}))

    def test_what_is_found_is_synced(self):
        disk = Disk()
        disk.create("a")
        disk.append("a", "xyz")
        other = disk.after(1, {"a": 2}, steps=4)
        self.assertEqual(told(other), (("a",), [("a", "xy", 0)], 0, [[("a", 0)]], 0, 4))
        other.append("a", "w")
        other.rename("a", "b")
        self.assertEqual(told(disk), (("a",), [("a", "xyz", 3)], 1, [[], [("a", 3)]], 2, None))
        self.assertEqual([found(other.after(0, {})), found(other.after(1, {"b": 1}))], [{"a": "xy"}, {"b": "xyw"}])

    def test_in(self):
        disk = Disk()
        disk.create("a")
        for value in values():
            self.assertIs(value in disk, value == "a" and type(value) is str)
        self.unlike(disk)
        self.assertTrue(disk == disk)

    def test_twin(self):
        disk = Disk(steps=9)
        disk.create("a")
        disk.append("a", "xy")
        disk.rename("a", "b")
        before = told(disk)
        twin = disk.twin()
        self.assertEqual(told(twin), before)
        twin.append("b", "z")
        twin.sync("b")
        self.assertEqual((told(disk), twin.names_after(1), twin.left), (before, {"a": 0}, 4))


class Power(Case):
    def test_steps_left(self):
        for steps in range(7):
            disk = Disk(steps=steps)
            calls = [lambda: disk.create("a"), lambda: disk.append("a", "x"), lambda: disk.sync("a"), lambda: disk.rename("a", "b"), lambda: disk.remove("b"), disk.sync_names]
            for at, call in enumerate(calls):
                if at < steps:
                    call()
                    self.assertEqual((disk.done, disk.left), (at + 1, steps - at - 1))
            before = told(disk)
            if steps < 6:
                self.refused(PowerLost, steps, calls[steps])
            for call in (lambda: disk.create("c"), disk.sync_names):
                if steps < 6:
                    self.refused(PowerLost, steps, call)
            for name in disk.names:
                for call in (lambda: disk.append(name, "y"), lambda: disk.sync(name), lambda: disk.rename(name, "z"), lambda: disk.remove(name)):
                    self.refused(PowerLost, steps, call)
            self.refused(UnknownName, "q", disk.sync, "q")
            self.refused(UnknownName, "q", disk.append, "q", 5)
            self.refused(InvalidText, "", disk.create, "")
            for name in disk.names:
                self.refused(InvalidText, 5, disk.append, name, 5)
                self.refused(InvalidText, "", disk.rename, name, "")
            self.assertEqual(told(disk), before)

    def test_other_errors_take_no_step(self):
        disk = Disk(steps=1)
        self.refused(UnknownName, "a", disk.remove, "a")
        self.refused(InvalidText, None, disk.create, None)
        disk.create("a")
        self.refused(PowerLost, 1, disk.sync, "a")
        disk = Disk(steps=0)
        self.refused(PowerLost, 0, disk.create, "a")
        self.assertEqual((disk.names, disk.done, disk.left), ((), 0, 0))


class Refused(Case):
    def disk(self):
        disk = Disk()
        disk.create("a")
        disk.append("a", "xy")
        disk.create("b")
        return disk

    def test_names(self):
        disk = self.disk()
        before = told(disk)
        for value in not_keys():
            for call in (disk.create, disk.sync, disk.remove, disk.read, disk.unsynced):
                self.refused(InvalidText, value, call, value)
            self.refused(InvalidText, value, disk.append, value, 5)
            self.refused(InvalidText, value, disk.rename, value, 5)
            self.refused(InvalidText, value, disk.rename, "a", value)
            self.refused(UnknownName, "c", disk.rename, "c", value)
        for call in (disk.sync, disk.remove, disk.read, disk.unsynced):
            self.refused(UnknownName, "c", call, "c")
        for value in not_signs():
            self.refused(InvalidText, value, disk.append, "a", value)
            self.refused(UnknownName, "c", disk.append, "c", value)
        self.assertEqual(told(disk), before)

    def test_numbers(self):
        disk = self.disk()
        for value in not_counts():
            if value is not None:
                self.refused(InvalidNumber, value, lambda: Disk(steps=value))
                self.refused(InvalidNumber, value, lambda: disk.after(1, {}, steps=value))
                self.refused(InvalidOperation, None, lambda: disk.after(1, None, steps=value))
        for value in [*not_counts(), 3, 4, 10 ** 39]:
            self.refused(InvalidNumber, value, disk.names_after, value)
            self.refused(InvalidNumber, value, lambda: disk.after(value, None, steps=-1))
        self.assertEqual(Disk(steps=10 ** 39).left, 10 ** 39)

    def test_signs(self):
        disk = self.disk()
        before = told(disk)
        for value in [value for value in values() if value != {} or type(value) is not dict]:
            self.refused(InvalidOperation, None, disk.after, 1, value)
        for signs in ({"a": 3}, {"a": -1}, {"a": True}, {"a": None}, {"a": "1"}, {"c": 0}, {"b": 1}, {"a": 1, "b": 1}, {1: 0}, {"": 0}, {("a",): 0}, {"a": 1, None: 0}):
            self.refused(InvalidOperation, None, disk.after, 2, signs)
        self.refused(InvalidOperation, None, disk.after, 1, {"b": 0})
        self.refused(InvalidOperation, None, disk.after, 0, {"a": 0})
        signs = {"b": 0, "a": 1}
        self.assertEqual(found(disk.after(2, signs)), {"a": "x", "b": ""})
        self.assertEqual((list(signs.items()), told(disk)), ([("b", 0), ("a", 1)], before))


class Runs(Case):
    def step(self, pick, disk):
        """A step that a disk can do."""
        names = disk.names
        word = pick.choice(("create", "append", "append", "sync", "rename", "remove", "sync_names")) if names else "create"
        if word == "create":
            return word, pick.choice("abc")
        if word == "sync_names":
            return (word,)
        more = {"append": (pick.choice(("x", "yz", "\n", "", "long" * 9)),), "rename": (pick.choice("abc"),)}
        return (word, pick.choice(names), *more.get(word, ()))

    def test_beside_the_model(self):
        for seed in range(60):
            pick = chance(seed)
            disk, plain = Disk(), PlainDisk()
            for _ in range(25):
                word, *args = self.step(pick, disk)
                self.assertIsNone(getattr(disk, word)(*args))
                plain.do(word, *args)
                self.assertEqual(told(disk), plain.told())
                many = pick.randrange(disk.name_steps + 1)
                signs = {name: pick.randrange(most + 1) for name, most in disk.names_after(many).items() if pick.random() < 0.7}
                self.assertEqual(found(disk.after(many, signs)), plain.after(many, signs))

    def test_all_that_can_be_found(self):
        for seed in range(12):
            pick, disk, plain = chance(seed + 90), Disk(), PlainDisk()
            for _ in range(9):
                word, *args = self.step(pick, disk)
                args = [arg[:2] for arg in args]
                getattr(disk, word)(*args)
                plain.do(word, *args)
            for many in range(disk.name_steps + 1):
                told_names = disk.names_after(many)
                for counts in itertools.islice(itertools.product(*[range(most + 1) for most in told_names.values()]), 300):
                    signs = dict(zip(told_names, counts))
                    other = disk.after(many, signs)
                    self.assertEqual(found(other), plain.after(many, signs))
                    self.assertEqual((other.name_steps, other.done, [other.unsynced(name) for name in other.names]), (0, 0, [0] * len(told_names)))

    def test_power_lost_again_and_again(self):
        for seed in range(25):
            pick = chance(seed + 200)
            disk, plain = Disk(steps=5), PlainDisk(5)
            for _ in range(60):
                word, *args = self.step(pick, disk)
                try:
                    plain.do(word, *args)
                except PowerLost as lost:
                    before = told(disk)
                    self.refused(PowerLost, lost.count, getattr(disk, word), *args)
                    self.assertEqual(told(disk), before)
                    many = pick.randrange(disk.name_steps + 1)
                    signs = {name: pick.randrange(most + 1) for name, most in disk.names_after(many).items()}
                    steps, texts = pick.randrange(9), plain.after(many, signs)
                    disk, plain = disk.after(many, signs, steps=steps), PlainDisk(steps)
                    for at, name in enumerate(sorted(texts)):
                        plain.states[0][name] = at
                        plain.texts.append(texts[name])
                        plain.synced.append(len(texts[name]))
                else:
                    getattr(disk, word)(*args)
                self.assertEqual(told(disk), plain.told())
