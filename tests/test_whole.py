"""The main promise [0.15] to [0.22], over the whole program."""

from deedline.base.letters import write_command
from deedline.client.blocks import Session
from deedline.client.server import Server
from deedline.copy.group import Group
from deedline.copy.nodes import Node
from deedline.disk.disk import Disk
from deedline.disk.keeper import Keeper
from deedline.disk.texts import log_text, read_log, read_snapshot, snapshot_text
from deedline.plain.grammar import WORDS
from deedline.plain.store import do, replay, shown
from deedline.shape.packs import Bounds
from deedline.store.core import Store
from deedline.text.lines import line_of, read_shown
from deedline.text.shell import Shell
from tests.helpers import Case
from tests.model_store import Times

OPTIONS = ({}, {"bounds": Bounds(1, 1, 0, 0)}, {"bound": 600, "policy": "idle"}, {"bound": 500, "policy": "nearest"}, {"bound": 700})


class Places:
    """A store, a keeper, a server, a shell, a leading node and a group, which do the same commands."""

    def __init__(self, options):
        self.store, self.disk = Store(**options), Disk()
        self.keeper = Keeper(self.disk, 1, rule="timed", **options)
        self.server, self.shell, self.node, self.group = Server(Store(**options)), Shell(Store(**options)), Node("a", **options), Group(("a", "b"), stretch=60, queue=60, **options)
        self.server.join("ann")
        self.calls = (self.store.call, self.keeper.call, self.serve, self.node_call, self.group_call, self.tell)

    def serve(self, command, now):
        (name, reply), = self.server.feed("ann", write_command(command), now)
        return reply

    def node_call(self, command, now):
        return self.node.call(command, now)[0]

    def group_call(self, command, now):
        reply = self.group.call("a", command, now)
        if "b" not in self.group.linked:
            self.group.join("b")
        self.group.deliver("b", 3)
        return reply

    def tell(self, command, now):
        self.shell("time %d" % now)
        return read_shown(self.shell(line_of(command)))

    def kept(self):
        return [self.store.kept(), self.keeper.kept(), self.server.store.kept(), self.node.entries(), self.group.node("a").entries()]


class Whole(Case):
    def test_all_answer_the_same(self):
        for seed in range(10):
            options = OPTIONS[seed % 5]
            times, places = Times(seed + 2000, list(WORDS), keys=2), Places(options)
            for _ in range(110):
                command = times.command()
                replies = [call(command, times.now) for call in places.calls]
                self.assertEqual(replies, [replies[0]] * len(replies), command)
                kept = places.kept()
                self.assertEqual(kept, [kept[0]] * len(kept))
                self.assertEqual(replay(places.store.units), kept[0])
            units = places.store.units
            self.assertEqual((places.server.store.units, places.keeper.place, places.node.place), (units, len(units), len(units)))
            self.copies(places, units)

    def copies(self, places, units):
        """What is loaded, read back, replayed and copied is the same kept store."""
        kept, now = places.store.kept(), places.store.last
        self.assertEqual(Store.loaded(places.store.snapshot()).kept(), kept)
        self.assertEqual(read_snapshot(snapshot_text(places.store.snapshot()))[0], kept)
        for at in {0, 1, len(units) // 2, len(units)}:
            snapshot = (replay(units[:at]), at, units[at - 1][0] if at else 0)
            branch, told, rest, _ = read_log(log_text(((0, 0),), snapshot, units[at:]))
            self.assertEqual((replay(rest, told[0]), told[1] + len(rest)), (kept, len(units)))
            copy = Node("b", leads=False)
            copy.load((((0, 0),), at), snapshot[0], snapshot[2])
            store = Store.loaded(snapshot)
            for unit in units[at:]:
                copy.apply(unit, ((0, 0),))
                store.apply(unit)
            self.assertEqual((copy.entries(), store.kept(), copy.line_time), (kept, kept, now))
        places.keeper.start()
        places.keeper.go_on(7)
        places.keeper.finish()
        self.assertEqual(Keeper(places.disk, 2).kept(), kept)
        places.group.join("b")
        places.group.deliver("b", 100)
        self.assertEqual((places.group.node("b").entries(), places.group.judge("a", "b")), (kept, ("alike", len(units))))

    def test_replies_are_those_of_a_plain_store(self):
        # [0.15]: each reply is that of a plain store behind the line so far.
        for seed in range(5):
            times, keeper = Times(seed + 2100, list(WORDS), keys=2), Keeper(Disk(), 1)
            line = ()
            for _ in range(100):
                command = times.command()
                reply, _, deeds = do(command, replay(line), times.now)
                self.assertEqual(keeper.call(command, times.now), reply)
                line += ((times.now, deeds),) if deeds else ()
                keeper.act(lambda store: store.sweep(times.now, 0), times.now)
            self.assertEqual(keeper.act(lambda store: store.units, times.now), line)

    def test_scans_that_go_from_one_to_another(self):
        for seed in range(8):
            times, places = Times(seed + 2200, [word for word in WORDS if word != "clear"], keys=6), Places({"bounds": Bounds(2, 5, 1, 3)} if seed % 2 else {})
            for _ in range(60):
                command = times.command()
                for call in places.calls:
                    call(command, times.now)
            cursor, told, always = "0", [], set(shown(places.store.kept(), times.now))
            while True:
                call = times.pick.choice(places.calls)
                _, (one, names) = call(("scan", cursor, "count", str(times.pick.randrange(1, 5))), times.now)
                told += [name for _, name in names[1]]
                always &= set(shown(places.store.kept(), times.now))
                cursor = one[1]
                if cursor == "0":
                    break
                for _ in range(3):
                    command = times.command()
                    for call in places.calls:
                        call(command, times.now)
                always &= set(shown(places.store.kept(), times.now))
                # A copy goes on with a scan of another one, too.
                if times.pick.random() < 0.3:
                    follower = Node("f", None, places.store.kept(), leads=False)
                    scan = ("scan", cursor)
                    self.assertEqual(follower.call(scan, times.now)[0], places.store.call(scan, times.now))
            self.assertEqual(len(told), len(set(told)))
            self.assertLessEqual(always, set(told))

    def test_a_server_on_a_kept_store(self):
        disk = Disk()
        keeper = Keeper(disk, 1)
        server = keeper.act(Server, 0)
        server.join("ann")
        server.join("bob")
        for now, (name, command) in enumerate((("ann", ("waitl", "q", "0")), ("bob", ("pushr", "q", "a", "b")), ("bob", ("begin",)), ("bob", ("set", "k", "1")), ("bob", ("do",)))):
            keeper.act(lambda store: server.feed(name, write_command(command), now), now)
        self.assertEqual((keeper.place, Keeper(disk, 2).kept()), (3, {"k": ("text", "1", None), "q": ("list", ("b",), None)}))


class NotTrue(Case):
    """[0.22]: what is not promised."""

    def test_a_greater_count_need_not_tell_more(self):
        # "ac" and "bB" have the same spot: one call tells both, whatever the count.
        store = Store({key: ("text", "", None) for key in ("ac", "bB")})
        self.assertEqual(store.call(("scan", "0", "count", "1"), 0), store.call(("scan", "0", "count", "2"), 0))

    def test_the_same_text_touches_nothing(self):
        store = Store({"a": ("text", "1", None)})
        session = Session(store)
        session.call(("watch", "a"), 0)
        store.call(("set", "a", "1"), 0)
        self.assertIsNone(session.touched(0))

    def test_the_greatest_place_need_not_have_all_kept_units(self):
        group = Group(("a", "b", "c"))
        for _ in range(3):
            group.call("a", ("add", "n", "1"), 1)
        group.fail_over(("b", "c"))
        group.join("c")
        group.call("b", ("set", "x", "1"), 2)
        group.deliver("c")
        group.keep("b")
        group.keep("c")
        group.acknowledge("c")
        self.assertEqual((group.sure(2), group.node("a").place, group.node("a").entries(), group.judge("a", "b")), (1, 3, {"n": ("text", "3", None)}, ("parted", 0)))

    def test_a_log_that_ends_at_a_whole_unit_can_have_lost_some(self):
        disk = Disk()
        keeper = Keeper(disk, 1, rule="never")
        keeper.call(("set", "a", "1"), 1)
        many = disk.unsynced("log")
        keeper.call(("set", "a", "2"), 2)
        found = disk.after(0, {"log": many})
        signs = found.read("log")
        self.assertEqual(read_log(signs)[3], len(signs))
        self.assertEqual((keeper.kept(), Keeper(found, 2).kept()), ({"a": ("text", "2", None)}, {"a": ("text", "1", None)}))
