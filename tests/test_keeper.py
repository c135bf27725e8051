"""Stage 22: keeping a store."""

from deedline import errors
from deedline.disk import keeper as module
from deedline.disk.disk import Disk
from deedline.disk.keeper import Keeper
from deedline.disk.texts import block_text, log_text, read_log, snapshot_text
from deedline.errors import (
    BadLetters, DeedError, InvalidCommand, InvalidNumber, InvalidOperation, InvalidText, InvalidTime, ParseError, PowerLost, Refused, TooMany, UnknownName,
)
from deedline.plain.grammar import WORDS
from deedline.plain.store import replay
from deedline.shape.packs import Bounds
from deedline.store.core import Store
from tests.helpers import Case, chance, not_commands, not_integers, not_of, not_times, values
from tests.model_store import Times
from tests.plain import DONE, error, number, text, words_of

PLACES = 10 ** 12
END = 10 ** 15
FIRST = ((0, 0),)
UNITS = ((5, (("set", "a", "b"),)), (7, (("pushr", "l", "x", "y"), ("gone", "q"))), (7, (("add", "n", "4"),)))
PUT = ["create log.new", "append log.new", "sync log.new", "rename log.new log", "sync_names"]


class Recorder(Disk):
    """A disk that tells which steps it did."""

    def __init__(self, *, steps=None):
        Disk.__init__(self, steps=steps)
        self.steps = []

    def note(self, *words):
        self.steps.append(" ".join(words))

    def create(self, name):
        Disk.create(self, name)
        self.note("create", name)

    def append(self, name, signs):
        Disk.append(self, name, signs)
        self.note("append", name)

    def sync(self, name):
        Disk.sync(self, name)
        self.note("sync", name)

    def rename(self, name, other):
        Disk.rename(self, name, other)
        self.note("rename", name, other)

    def remove(self, name):
        Disk.remove(self, name)
        self.note("remove", name)

    def sync_names(self):
        Disk.sync_names(self)
        self.note("sync_names")

    def taken(self):
        """The steps since the last call."""
        steps, self.steps = self.steps, []
        return steps


def with_files(**files):
    """A recording disk with some files, all synced."""
    disk = Recorder()
    for name, signs in files.items():
        name = name.replace("_", ".")
        disk.create(name)
        disk.append(name, signs)
        disk.sync(name)
    disk.sync_names()
    disk.steps = []
    return disk


def told(keeper, disk):
    """All that a keeper tells, and its disk."""
    return (keeper.place, keeper.last, keeper.branch, keeper.open_units, keeper.is_rewriting, keeper.kept(), disk.done,
            {name: (disk.read(name), disk.unsynced(name)) for name in disk.names})


class ComingUp(Case):
    def test_constants(self):
        self.assertEqual((module.LOG, module.NEW, module.RULES), ("log", "log.new", ("always", "never", "timed")))

    def test_example(self):
        disk = Disk()
        keeper = Keeper(disk, 1, rule="timed", span=10)
        self.assertEqual([disk.read("log"), disk.done, keeper.call(("set", "a", "b"), 5), keeper.open_units, disk.done], ["deedline 1 0@0,1@0\n0 492 0 0;\n", 5, ("done",), 1, 6])

    def test_without_a_log(self):
        disk = Recorder()
        keeper = Keeper(disk, 7)
        self.assertEqual(disk.taken(), PUT)
        self.assertEqual(told(keeper, disk), (0, 0, (*FIRST, (7, 0)), 0, False, {}, 5, {"log": ("deedline 1 0@0,7@0\n0 492 0 0;\n", 0)}))
        self.assertEqual(disk.name_steps, 0)
        disk = with_files(log_new="junk", other="x")
        keeper = Keeper(disk, PLACES)
        self.assertEqual(disk.taken(), ["remove log.new", *PUT])
        self.assertEqual((disk.names, keeper.branch), (("log", "other"), (*FIRST, (PLACES, 0))))

    def test_with_a_log(self):
        kept = {"q": ("text", "1", 6), "z": ("sorted", ((1, "a"),), None)}
        log = log_text(((0, 0), (2, 3)), (kept, 4, 5), UNITS)
        for junk in ("", "x", block_text(UNITS[0])[:-1], block_text((3, (("clear",),))), "\n" + block_text(UNITS[0])):
            for more in ({}, {"log_new": "deedline"}):
                disk = with_files(log=log + junk, **more)
                keeper = Keeper(disk, 3)
                self.assertEqual(disk.taken(), ["remove log.new"] * len(more) + PUT)
                behind = replay(UNITS, kept)
                self.assertEqual(told(keeper, disk)[:6], (7, 7, ((0, 0), (2, 3), (3, 7)), 0, False, behind))
                self.assertEqual(disk.read("log"), log_text(((0, 0), (2, 3), (3, 7)), (kept, 4, 5), UNITS))
                self.assertEqual((disk.names, disk.unsynced("log"), keeper.shown(10)), (("log",), 0, behind))
                self.refused(InvalidTime, 6, keeper.call, ("clear",), 6)
                self.assertEqual(keeper.call(("get", "a"), 7), text("b"))

    def test_options(self):
        log = log_text(FIRST, ({"a": ("set", ("1",), None)}, 0, 0), ())
        keeper = Keeper(with_files(log=log), 1, bounds=Bounds(1, 1, 0, 0), bound=20, policy="idle")
        self.assertEqual(keeper.act(lambda store: (store.bounds == Bounds(1, 1, 0, 0), store.bound, store.policy, store.shape_at("a"), store.begin, store.units), 0),
                         (True, 20, "idle", "table", 0, ()))
        self.assertEqual(keeper.call(("set", "b", "x"), 1), DONE)
        self.assertEqual(keeper.kept(), {"b": ("text", "x", None)})

    def test_refused(self):
        good, full = log_text(((0, 0), (4, 0)), (({"a": ("text", "x" * 9, None)}), 2, 3), ()), tuple((at, 0) for at in range(20))
        for value in not_of(Disk):
            self.refused(InvalidOperation, None, Keeper, value, 0, rule=1)
        disk = with_files(log="nothing")

        def refused(kind, kept, number, **options):
            before = told_disk(disk)
            self.refused(kind, kept, Keeper, disk, number, **options)
            self.assertEqual(told_disk(disk), before)

        for value in not_integers(1, PLACES):
            refused(InvalidNumber, value, value, rule="never?", span=0, bound=0)
        for value in values() + ["Always", "timed "]:
            refused(InvalidOperation, None, 1, rule=value, span=0, bound=0)
        for value in not_integers(1, END):
            refused(InvalidNumber, value, 1, span=value, bound=0)
        refused(ParseError, "head", 1, bound=0)
        disk = with_files(log="deedline 1 0@0\n0 491 0 0;\n")
        refused(ParseError, "snapshot", 1, bound=0, nope=1)
        disk = with_files(log=good, log_new="x")
        for many in (1, 3, 4):
            refused(InvalidOperation, None, many, bound=0)
        refused(InvalidNumber, 0, 5, bound=0)
        refused(InvalidOperation, None, 5, nope=1)
        refused(InvalidOperation, None, 5, place=1)
        refused(InvalidOperation, None, 5, bounds=5, bound=0)
        refused(InvalidOperation, None, 5, policy=5)
        refused(InvalidOperation, None, 5, bound=25)
        self.assertEqual(Keeper(disk, 5, bound=26).branch, ((0, 0), (4, 0), (5, 2)))
        disk = with_files(log=log_text(full, ({}, 0, 0), ()))
        refused(InvalidOperation, None, 50)
        refused(InvalidNumber, 0, 0)
        self.assertEqual(len(Keeper(with_files(log=log_text(full[:19], ({}, 0, 0), ())), 50).branch), 20)


def told_disk(disk):
    return disk.done, [(name, disk.read(name)) for name in disk.names]


class Calling(Case):
    def keeper(self, **options):
        disk = Recorder()
        keeper = Keeper(disk, 1, **options)
        disk.taken()
        return keeper, disk

    def test_always(self):
        keeper, disk = self.keeper()
        self.assertEqual([keeper.call(words_of("set a 1"), 5), disk.taken(), keeper.open_units], [DONE, ["append log", "sync log"], 0])
        self.assertEqual([keeper.call(("get", "a"), 6), keeper.call(words_of("set a 1"), 6), keeper.call(("nope",), 6), disk.taken()], [text("1"), DONE, error("unknown"), []])
        self.assertEqual([keeper.call(words_of("sadd a x"), 6), keeper.call(words_of("append b yz"), 9), disk.taken()], [error("kind"), number(2), ["append log", "sync log"]])
        self.assertEqual(disk.read("log"), log_text(keeper.branch, ({}, 0, 0), ((5, (words_of("set a 1"),)), (9, (words_of("append b yz"),)))))
        self.assertEqual((keeper.place, keeper.last, keeper.kept()), (2, 9, {"a": ("text", "1", None), "b": ("text", "yz", None)}))

    def test_never(self):
        keeper, disk = self.keeper(rule="never")
        for at in range(3):
            keeper.call(("add", "n", "1"), 10 ** at)
        self.assertEqual([disk.taken(), keeper.open_units, disk.unsynced("log") > 0], [["append log"] * 3, 3, True])
        self.assertEqual([keeper.sync(), disk.taken(), keeper.open_units, disk.unsynced("log"), keeper.sync(), disk.taken()], [None, ["sync log"], 0, 0, None, ["sync log"]])
        keeper, disk = self.keeper(rule="never", span=1)
        self.assertEqual([keeper.call(("add", "n", "1"), 5), keeper.call(("add", "n", "1"), 500), disk.taken()], [number(1), number(2), ["append log"] * 2])
        keeper, disk = self.keeper(rule="timed", span=END)
        self.assertEqual([keeper.call(("add", "n", "1"), 0), keeper.call(("get", "n"), END - 1), disk.taken(), keeper.call(("get", "n"), END), disk.taken()], [number(1), text("1"), ["append log"], text("1"), ["sync log"]])

    def test_timed(self):
        keeper, disk = self.keeper(rule="timed", span=10)
        seen = []
        for line, now in (("add n 1", 5), ("add n 1", 14), ("get n", 14), ("get n", 15), ("get n", 40), ("add n 1", 40), ("add n 1", 40), ("add n 1", 49), ("nope", 50), ("get n", 60), ("add n 1", 60)):
            keeper.call(words_of(line), now)
            seen.append((disk.taken(), keeper.open_units))
        add, sync = ["append log"], ["sync log"]
        self.assertEqual(seen, [(add, 1), (add, 2), ([], 2), (sync, 0), ([], 0), (add, 1), (add, 2), (add, 3), (sync, 0), ([], 0), (add, 1)])
        keeper, disk = self.keeper(rule="timed")
        for now in (0, 999, 1000, 1999, 2999):
            keeper.call(("add", "n", "1"), now)
        self.assertEqual(disk.taken(), ["append log", "append log", "sync log", "append log", "append log", "sync log", "append log"])

    def test_act(self):
        keeper, disk = self.keeper()
        self.assertEqual(keeper.act(lambda store: [store.call(("add", "n", "2"), 3), store.block((("add", "n", "2"), ("size",)), 4), store.sweep(8, 9)], 2),
                         [number(2), ("list", (number(4), number(1))), 0])
        self.assertEqual((disk.taken(), keeper.place, keeper.last), (["append log", "sync log"], 2, 4))
        self.refused(InvalidTime, 7, keeper.act, lambda store: store.call(("clear",), 9), 7)
        self.assertEqual((keeper.act(len, 8), keeper.act(lambda store: None, 9), disk.taken()), (1, None, []))
        keeper.act(lambda store: store.apply((9, (("set", "q", "1"),))), 8)
        self.assertEqual((disk.taken(), read_log(disk.read("log"))[2][-1]), (["append log", "sync log"], (9, (("set", "q", "1"),))))
        keeper, disk = self.keeper(rule="timed", span=5)
        keeper.call(("add", "n", "1"), 3)
        self.assertEqual((keeper.act(lambda store: store.call(("add", "n", "1"), 20), 8), disk.taken(), keeper.open_units), (number(2), ["append log", "sync log", "append log"], 1))

    def test_actions_that_raise(self):
        for error_class in (DeedError, InvalidCommand, errors.InvalidStore, InvalidOperation):
            self.raising(error_class())
        for made in (InvalidText("a"), ParseError(3), InvalidTime(4), InvalidNumber(5), TooMany(6), UnknownName("b"), BadLetters(7), PowerLost(8), Refused("why")):
            self.raising(made)

    def raising(self, made):
        keeper, disk = self.keeper()

        def action(store):
            store.call(("add", "n", "1"), 5)
            store.call(("add", "n", "1"), 6)
            raise made

        with self.assertRaises(type(made)) as caught:
            keeper.act(action, 1)
        self.assertIs(caught.exception, made)
        self.assertEqual((disk.taken(), keeper.place, keeper.open_units), (["append log", "sync log"], 2, 0))
        self.assertEqual(len(read_log(disk.read("log"))[2]), 2)
        self.assertEqual((keeper.call(("add", "n", "1"), 6), disk.taken()), (number(3), ["append log", "sync log"]))

    def test_an_action_that_raises_without_units(self):
        keeper, disk = self.keeper()
        self.refused(InvalidNumber, 201, keeper.act, lambda store: store.sweep(5, 201), 1)
        self.refused(InvalidCommand, None, keeper.act, lambda store: store.call((), 5), 1)
        self.assertEqual(disk.taken(), [])

    def test_close(self):
        keeper, disk = self.keeper(rule="never")
        keeper.call(("add", "n", "1"), 5)
        keeper.start()
        disk.taken()
        self.assertEqual([keeper.close(), disk.taken(), keeper.open_units, keeper.is_rewriting, disk.names], [None, ["remove log.new", "sync log"], 0, False, ("log",)])
        before = told(keeper, disk)
        for call in (lambda: keeper.call(("clear",), 9), lambda: keeper.act(len, 9), keeper.sync, keeper.close, keeper.start, lambda: keeper.go_on(5), keeper.finish, keeper.stop):
            self.refused(InvalidOperation, None, call)
        self.assertEqual((told(keeper, disk), keeper.shown(3)), (before, {"n": ("text", "1", None)}))
        keeper, disk = self.keeper()
        self.assertEqual([keeper.close(), disk.taken()], [None, ["sync log"]])

    def test_refused(self):
        keeper, disk = self.keeper(rule="timed", span=1)
        keeper.call(("add", "n", "1"), 5)
        before = told(keeper, disk)
        for value in not_commands():
            self.refused(InvalidCommand, None, keeper.call, value, 9)
            self.refused(InvalidCommand, None, keeper.call, value, None)
        for value in [*not_times(), 0, 4]:
            self.refused(InvalidTime, value, keeper.call, ("clear",), value)
            self.refused(InvalidTime, value, keeper.act, len, value)
        for value in not_times():
            self.refused(InvalidTime, value, keeper.shown, value)
        for value in values():
            if type(value) in (int, str, bool, list, tuple, dict, type(None)):
                self.refused(InvalidOperation, None, keeper.act, value, 9)
        self.assertEqual(told(keeper, disk), before)
        keeper.start()
        before = told(keeper, disk)
        for value in [value for value in values() if type(value) is not int or value < 1]:
            self.refused(InvalidNumber, value, keeper.go_on, value)
        self.refused(Refused, "rewriting", keeper.start)
        self.assertEqual(told(keeper, disk), before)
        keeper.stop()
        before = told(keeper, disk)
        for value in (0, -1, True, None):
            self.refused(InvalidNumber, value, keeper.go_on, value)
        for call in (lambda: keeper.go_on(1), keeper.finish, keeper.stop):
            self.refused(Refused, "rewriting", call)
        self.assertEqual(told(keeper, disk), before)


class Rewriting(Case):
    def test_in_parts(self):
        disk = Recorder()
        keeper = Keeper(disk, 1, rule="never")
        keeper.call(words_of("setall a 1 b 2"), 5)
        keeper.call(words_of("del a"), 6)
        disk.taken()
        whole = log_text(keeper.branch, ({"b": ("text", "2", None)}, 2, 6), ())
        self.assertEqual([keeper.start(), disk.taken(), keeper.is_rewriting, disk.read("log.new")], [None, ["create log.new"], True, ""])
        self.assertEqual([keeper.go_on(7), keeper.go_on(1), disk.taken(), disk.read("log.new")], [len(whole) - 7, len(whole) - 8, ["append log.new"] * 2, whole[:8]])
        keeper.call(words_of("add n 1"), 7)
        self.assertEqual((disk.taken(), read_log(disk.read("log"))[2][-1], disk.read("log.new")), (["append log"], (7, (words_of("add n 1"),)), whole[:8]))
        self.assertEqual([keeper.go_on(10 ** 20), disk.taken(), disk.read("log.new"), keeper.go_on(5), disk.taken()], [0, ["append log.new"], whole, 0, []])
        keeper.call(words_of("add n 1"), 8)
        disk.taken()
        self.assertEqual([keeper.open_units, keeper.finish(), disk.taken(), keeper.is_rewriting, keeper.open_units, disk.names],
                         [4, None, ["append log.new", "sync log.new", "rename log.new log", "sync_names"], False, 0, ("log",)])
        self.assertEqual(disk.read("log"), log_text(keeper.branch, ({"b": ("text", "2", None)}, 2, 6), ((7, (words_of("add n 1"),)), (8, (words_of("add n 1"),)))))
        keeper.call(words_of("add n 1"), 9)
        self.assertEqual((disk.taken(), len(read_log(disk.read("log"))[2]), keeper.open_units), (["append log"], 3, 1))
        other = Keeper(disk, 2)
        self.assertEqual((other.kept(), other.place, other.branch), (keeper.kept(), 5, ((0, 0), (1, 0), (2, 5))))

    def test_finished_at_once(self):
        disk = Recorder()
        keeper = Keeper(disk, 1)
        keeper.call(words_of("add n 1"), 7)
        keeper.start()
        disk.taken()
        keeper.finish()
        self.assertEqual((disk.taken(), disk.read("log")), (["append log.new", "sync log.new", "rename log.new log", "sync_names"],
                                                            "deedline 1 0@0,1@0\n" + snapshot_text(({"n": ("text", "1", None)}, 1, 7))))
        keeper.start()
        keeper.go_on(10 ** 9)
        disk.taken()
        keeper.finish()
        self.assertEqual(disk.taken(), ["append log.new", "sync log.new", "rename log.new log", "sync_names"])

    def test_stopped(self):
        disk = Recorder()
        keeper = Keeper(disk, 1)
        keeper.start()
        keeper.go_on(3)
        keeper.call(words_of("add n 1"), 7)
        disk.taken()
        self.assertEqual([keeper.stop(), disk.taken(), keeper.is_rewriting, disk.names], [None, ["remove log.new"], False, ("log",)])
        keeper.start()
        self.assertEqual((keeper.go_on(10 ** 9), disk.read("log.new")), (0, log_text(keeper.branch, ({"n": ("text", "1", None)}, 1, 7), ())))


class Power(Case):
    """The power is lost at each step of a script, and a keeper comes up on what is found, again and again."""

    def script(self, pick, times):
        """Some things to do at a keeper, each a function of it; with the time of its call, if it has one."""
        things = []
        for _ in range(14):
            what = pick.random()
            command = times.command()
            if what < 0.6:
                things.append(("call", command, times.now))
            elif what < 0.7:
                things.append(("act", (command, times.command()), times.now))
            else:
                things.append((pick.choice(("start", "start", "go_on", "go_on", "finish", "stop", "sync")),))
        return things

    def do(self, keeper, thing):
        """Does one thing, if it can be done now."""
        word, *args = thing
        if word == "call":
            return keeper.call(*args)
        if word == "act":
            commands, now = args
            return keeper.act(lambda store: [store.call(command, max(now, store.now)) for command in commands], now)
        if word == "sync" or (word == "start") != keeper.is_rewriting:
            return getattr(keeper, word)(*((9,) if word == "go_on" else ()))
        return None

    def model(self, store, thing):
        """What the thing does to the store of a model."""
        word, *args = thing
        if word == "call":
            store.call(*args)
        if word == "act":
            for command in args[0]:
                store.call(command, max(args[1], store.now))

    def life(self, disk, number, rule, span, things, line, start):
        """Comes up and does things until the power is lost: the line, what is sure of it, and whether the power was lost."""
        place = start
        try:
            keeper = Keeper(disk, number, rule=rule, span=span)
        except PowerLost:
            return line, start, True
        self.assertEqual((keeper.place, keeper.kept()), (start, replay(line[:start])))
        store, sure = Store(replay(line[:start]), place=start, now=keeper.last), start
        for thing in things:
            self.model(store, thing)
            now = thing[-1] if thing[0] in ("call", "act") else 0
            self.assertGreaterEqual(keeper.place - keeper.open_units, 0)
            sure = max(sure, keeper.place - keeper.open_units)
            try:
                self.do(keeper, thing)
            except PowerLost as lost:
                self.closed(keeper, lost.count, now)
                return line[:start] + store.units, sure, True
            place = store.place
            units = line[:start] + store.units
            if rule == "always":
                sure = place
            if rule == "timed" and now:
                sure = max(sure, sum(time <= now - span for time, _ in units))
            self.assertEqual((keeper.place, keeper.kept(), keeper.last), (place, store.kept(), store.last))
        return line[:start] + store.units, max(sure, keeper.place - keeper.open_units), False

    def closed(self, keeper, steps, now):
        """All eight raise it again, whichever comes first."""
        calls = (lambda: keeper.call(("get", "a"), max(now, 10 ** 9)), lambda: keeper.act(len, 10 ** 9), keeper.sync, keeper.close, keeper.start, lambda: keeper.go_on(1), keeper.finish, keeper.stop)
        for call in calls[steps % 8:] + calls[:steps % 8]:
            self.refused(PowerLost, steps, call)

    def founds(self, disk, pick, steps):
        """Some disks that can be found."""
        for many in range(disk.name_steps + 1):
            most = disk.names_after(many)
            for part in (0, 1, 2):
                yield disk.after(many, {name: (0, most[name], pick.randrange(most[name] + 1))[part] for name in most}, steps=steps)

    def test_each_step(self):
        for seed in range(9):
            rule = ("always", "never", "timed")[seed % 3]
            pick, times = chance(seed), Times(seed + 900, ["set", "add", "pushr", "sadd", "del", "expireat", "get", "persist"], keys=2)
            things = self.script(pick, times)
            steps, lost = 0, True
            while lost:
                disk = Disk(steps=steps)
                line, sure, lost = self.life(disk, 1, rule, 4, things, (), 0)
                for other in self.founds(disk, pick, None):
                    self.up(other, line, sure)
                steps += 1
            self.assertGreater(steps, 12)

    def up(self, disk, line, sure):
        """A keeper that comes up has the units of a beginning of the line, at least the sure ones."""
        keeper = Keeper(disk, 500)
        self.assertGreaterEqual(keeper.place, sure)
        self.assertLessEqual(keeper.place, len(line))
        self.assertEqual(keeper.kept(), replay(line[:keeper.place]))
        branch, snapshot, units, good = read_log(disk.read("log"))
        self.assertEqual((snapshot[1] + len(units), good, disk.names, branch), (keeper.place, len(disk.read("log")), ("log",), keeper.branch))
        self.assertEqual(units, line[snapshot[1]:keeper.place])
        return keeper.place

    def test_again_and_again(self):
        for seed in range(20):
            rule = ("always", "never", "timed")[seed % 3]
            pick, times = chance(seed + 70), Times(seed + 990, ["set", "add", "pushr", "sadd", "del", "expireat", "get"], keys=2)
            disk, line, start = Disk(steps=pick.randrange(25)), (), 0
            for turn in range(18):
                line, sure, _ = self.life(disk, turn + 1, rule, 3, self.script(pick, times), line, start)
                disk = pick.choice(list(self.founds(disk, pick, pick.choice((None, 3, 6, 20)))))
                start = self.up(disk.after(0, {}), line, sure)
                line = line[:start]
                # The line goes on behind what came up: its times go on, too.
                times.now = max([times.now] + [time for time, _ in line])

    def test_in_coming_up(self):
        log = log_text(FIRST, ({}, 0, 0), UNITS)
        for steps in range(7):
            disk = with_files(log=log + "junk", log_new="more").after(0, {}, steps=steps)
            try:
                Keeper(disk, 3)
            except PowerLost as lost:
                self.assertEqual((lost.count, steps < 6), (steps, True))
            for other in self.founds(disk, chance(steps), None):
                self.assertEqual(Keeper(other, 4).place, 3)
                self.assertEqual(len(read_log(other.read("log"))[2]), 3)

    def test_power_lost_in_the_middle_of_a_call(self):
        disk = Disk(steps=6)
        keeper = Keeper(disk, 1)
        self.refused(PowerLost, 6, keeper.call, ("set", "a", "1"), 5)
        self.closed(keeper, 6, 5)
        self.assertEqual([Keeper(disk.after(0, {"log": many}), 2).place for many in (0, 5, disk.unsynced("log"))], [0, 0, 1])


class Whole(Case):
    def test_beside_a_store(self):
        for seed in range(6):
            times = Times(seed + 40, list(WORDS), keys=2)
            disk, store, number = Disk(), Store(bound=800, policy="idle"), 1
            keeper = Keeper(disk, 1, rule=("always", "never", "timed")[seed % 3], span=3, bound=800, policy="idle")
            for turn in range(120):
                command = times.command()
                self.assertEqual(keeper.call(command, times.now), store.call(command, times.now))
                self.assertEqual((keeper.kept(), keeper.place, keeper.last, keeper.shown(times.now)), (store.kept(), store.place, store.last, store.shown(times.now)))
                if turn % 40 == 17:
                    keeper.start()
                if turn % 40 == 30 and keeper.is_rewriting:
                    keeper.finish()
                if turn % 50 == 49:
                    keeper.close()
                    number += 1
                    keeper = Keeper(disk, number, bound=800, policy="idle")
                    store = Store.loaded(store.snapshot(), bound=800, policy="idle")
                    times.now = max(times.now, keeper.last)
