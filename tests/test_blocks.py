"""Stage 23: blocks and watches."""

from deedline.client.blocks import Session
from deedline.errors import InvalidCommand, InvalidStore, InvalidTime
from deedline.plain.grammar import WORDS, first_error
from deedline.plain.store import apply, replay
from deedline.store.core import Store
from tests.helpers import Case, not_commands, not_of, not_times
from tests.model_store import Times, is_over
from tests.plain import DONE, NONE, error, number, text, texts, words_of

QUEUED = text("queued")


def listed(*replies):
    return ("list", replies)


class PlainSession:
    """A plain model of a session at a store."""

    def __init__(self, store):
        self.store, self.first = store, store.kept()
        self.queue, self.broken, self.notes = None, False, {}

    def leave(self):
        self.queue, self.broken, self.notes = None, False, {}

    def call(self, command, now):
        self.store.sweep(now, 0)
        reply = self.reply(command, now)
        if self.queue is not None and reply[0] == "error":
            self.broken = True
        return reply

    def reply(self, command, now):
        word, *keys = command
        if word not in ("begin", "do", "stop", "watch", "unwatch"):
            if self.queue is None:
                return self.store.call(command, now)
            wrong = first_error(command) or ("size" if len(self.queue) == 64 else None)
            if wrong:
                return error(wrong)
            self.queue.append(command)
            return QUEUED
        if len(keys) > 0 and word != "watch" or word == "watch" and not keys:
            return error("words")
        for key in keys:
            if not 1 <= len(key) <= 40:
                return error("size" if key else "syntax")
        if word in ("do", "stop"):
            if self.queue is None:
                return error("idle")
            queue, broken, touched = self.queue, self.broken, self.touched(now)
            self.leave()
            if word == "stop":
                return DONE
            if broken:
                return error("broken")
            return NONE if touched else self.store.block(tuple(queue), now)
        if self.queue is not None:
            return error("nested")
        if word == "begin":
            self.queue = []
        elif word == "unwatch":
            self.notes = {}
        else:
            gone = [key for key in dict.fromkeys(keys) if key in self.store and is_over(self.store.entry(key), now)]
            if gone:
                self.store.apply((now, tuple(("gone", key) for key in gone)))
            for key in keys:
                self.notes.setdefault(key, (self.store.place, key in self.store))
        return DONE

    def touched(self, now):
        """The first reason, told from the line alone."""
        units = self.store.units
        for at, (_, deeds) in enumerate(units):
            kept = replay(units[:at], self.first)
            for deed in deeds:
                after = apply(kept, deed)
                keys = [key for key, (place, _) in self.notes.items() if place <= self.store.begin + at and kept.get(key) != after.get(key)]
                if keys:
                    return ("deed", self.store.begin + at, min(keys))
                kept = after
        kept = self.store.kept()
        keys = [key for key, (_, was_kept) in self.notes.items() if was_kept and key in kept and is_over(kept[key], now)]
        return ("ran out", min(keys)) if keys else None


def told(session):
    return (session.queued, session.is_broken, session.watched)


class Blocks(Case):
    def calls(self, session, now, *lines):
        """Each line is replied to as told behind it."""
        for line, reply in lines:
            self.assertEqual((line, session.call(words_of(line), now)), (line, reply))

    def test_a_block(self):
        store = Store({"n": ("text", "1", None)}, now=3)
        session = Session(store)
        self.assertEqual(told(session), (None, False, ()))
        self.calls(session, 5, ("get n", text("1")), ("begin", DONE), ("add n 2", QUEUED), ("get n", QUEUED), ("sadd n x", QUEUED))
        self.assertEqual((told(session), store.place, store.now), (((("add", "n", "2"), ("get", "n"), ("sadd", "n", "x")), False, ()), 0, 5))
        store.call(("set", "n", "5"), 6)
        self.assertEqual(session.call(("do",), 9), listed(number(7), text("7"), error("kind")))
        self.assertEqual((told(session), store.units), ((None, False, ()), ((6, (("set", "n", "5"),)), (9, (("add", "n", "2"),)))))
        self.calls(session, 9, ("begin", DONE), ("do", listed()), ("do", error("idle")))

    def test_words_at_each_moment(self):
        session = Session(Store())
        self.calls(session, 1, ("do", error("idle")), ("stop", error("idle")), ("unwatch", DONE), ("watch a b", DONE), ("begin x", error("words")), ("do x", error("words")), ("stop x", error("words")),
                   ("watch", error("words")), ("unwatch x", error("words")), ("watch a ''", error("syntax")), ("watch %s ''" % ("k" * 41), error("size")), ("watch '' %s" % ("k" * 41), error("syntax")),
                   ("watch c " + "k" * 41, error("size")), ("queued", error("unknown")))
        self.assertEqual(told(session), (None, False, ("a", "b")))
        for line, code in (("begin", "nested"), ("watch a", "nested"), ("unwatch", "nested"), ("do x", "words"), ("stop x", "words"), ("begin x", "words"), ("watch", "words"), ("unwatch x", "words"),
                           ("watch ''", "syntax"), ("watch " + "k" * 41, "size"), ("nope", "unknown"), ("waitl q 0", "unknown"), ("get", "words"), ("get ''", "syntax"), ("add n x", "number"), ("get " + "k" * 41, "size")):
            self.calls(session, 1, ("begin", DONE), ("set a 1", QUEUED), (line, error(code)))
            self.assertEqual(told(session), ((("set", "a", "1"),), True, ("a", "b")))
            self.calls(session, 1, ("set b 1", QUEUED), ("do", error("broken")), ("do", error("idle")), ("get a", NONE), ("get b", NONE), ("watch a b", DONE))
        self.calls(session, 1, ("begin", DONE), ("set a 1", QUEUED), ("nope", error("unknown")), ("stop", DONE), ("do", error("idle")), ("begin", DONE), ("set a 2", QUEUED), ("do", listed(DONE)), ("get a", text("2")))
        self.assertEqual(told(session), (None, False, ()))

    def test_errors_without_a_block_break_nothing(self):
        session = Session(Store())
        self.calls(session, 1, ("nope", error("unknown")), ("do", error("idle")), ("begin", DONE))
        self.assertEqual(told(session), ((), False, ()))

    def test_the_sixty_fifth_command(self):
        session = Session(Store())
        self.calls(session, 1, ("begin", DONE), *[("add n 1", QUEUED)] * 64)
        self.assertEqual(len(session.queued), 64)
        other = Session(Store())
        self.calls(other, 1, ("begin", DONE), *[("add n 1", QUEUED)] * 64, ("add n", error("words")), ("add n 1", error("size")), ("do", error("broken")))
        self.assertEqual(session.call(("do",), 2), listed(*[number(at + 1) for at in range(64)]))
        self.calls(session, 2, ("begin", DONE), *[("add n 1", QUEUED)] * 64, ("add n 1", error("size")), ("add n 1", error("size")))
        self.assertEqual((len(session.queued), session.is_broken), (64, True))
        self.calls(session, 2, ("do", error("broken")), ("get n", text("64")))

    def test_room(self):
        store = Store({"a": ("text", "", None)}, bound=30)
        session = Session(store)
        self.calls(session, 1, ("watch a", DONE), ("begin", DONE), ("append a x", QUEUED), ("append a " + "x" * 40, QUEUED), ("do", error("room")))
        self.assertEqual((told(session), store.kept(), store.units, store.marks()), ((None, False, ()), {"a": ("text", "", None)}, (), {}))

    def test_order_of_what_is_against_it(self):
        store = Store(bound=20)
        session = Session(store)
        self.calls(session, 1, ("watch a", DONE), ("begin", DONE), ("set b %s" % ("x" * 40), QUEUED), ("nope", error("unknown")))
        store.call(("set", "a", "1"), 2)
        self.calls(session, 2, ("do", error("broken")), ("watch a", DONE), ("begin", DONE), ("set b %s" % ("x" * 40), QUEUED))
        store.call(("set", "a", "2"), 2)
        self.calls(session, 2, ("do", NONE), ("begin", DONE), ("set b %s" % ("x" * 40), QUEUED), ("do", error("room")))
        self.assertEqual(store.kept(), {"a": ("text", "2", None)})

    def test_leave(self):
        session = Session(Store())
        self.calls(session, 1, ("watch a", DONE), ("begin", DONE), ("nope", error("unknown")), ("set a 1", QUEUED))
        self.assertIsNone(session.leave())
        self.assertEqual(told(session), (None, False, ()))
        self.calls(session, 1, ("do", error("idle")), ("size", number(0)), ("begin", DONE), ("set a 1", QUEUED), ("do", listed(DONE)))
        self.assertIsNone(session.leave())

    def test_time(self):
        store = Store(now=5)
        session = Session(store)
        self.calls(session, 7, ("begin", DONE))
        self.assertEqual(store.now, 7)
        for now, line in enumerate(("get a", "nope", "begin", "watch"), 8):
            session.call(words_of(line), now)
            self.assertEqual(store.now, now)
        self.refused(InvalidTime, 10, session.call, ("do",), 10)
        self.assertEqual((session.queued, store.now), ((("get", "a"),), 11))

    def test_refused(self):
        for value in not_of(Store):
            self.refused(InvalidStore, None, Session, value)
        store = Store({"a": ("text", "1", 20)}, now=5)
        session = Session(store)
        session.call(("watch", "a"), 5)
        session.call(("begin",), 5)
        before = told(session), store.now, store.units
        for value in not_commands():
            self.refused(InvalidCommand, None, session.call, value, 6)
            self.refused(InvalidCommand, None, session.call, value, -1)
        for value in [*not_times(), 0, 4]:
            for line in ("get a", "begin", "do", "nope", "watch", "stop"):
                self.refused(InvalidTime, value, session.call, words_of(line), value)
        for value in not_times():
            self.refused(InvalidTime, value, session.touched, value)
        self.assertEqual((told(session), store.now, store.units), before)


class Watches(Case):
    def watching(self, kept, *keys, now=5):
        store = Store(kept, place=3, now=now)
        session = Session(store)
        self.assertEqual(session.call(("watch", *keys), now), DONE)
        return store, session

    def test_what_touches(self):
        kept = {"a": ("text", "1", None), "b": ("list", ("x",), 50), "c": ("set", ("y",), None)}
        for line, touched in (("set a 1", False), ("set a 2", True), ("append a ''", False), ("del a", True), ("grab z", False), ("set z 1", True), ("popl b", True), ("expireat b 60", True), ("expireat b 50", False),
                              ("persist b", True), ("rename c a", True), ("rename c d", False), ("copy c a", False), ("copy c a over", True), ("clear", True), ("sadd c z", False), ("get a", False), ("nope", False),
                              ("setall c 1 z 1", True), ("sinterto a c", True)):
            store, session = self.watching(kept, "a", "b", "z")
            store.call(words_of(line), 9)
            self.assertEqual((line, session.touched(9) is not None), (line, touched))
            session.call(("begin",), 9)
            self.assertEqual(session.call(("do",), 9), NONE if touched else listed())
            self.assertEqual((session.watched, session.touched(9)), ((), None))

    def test_the_same_text_again(self):
        store, session = self.watching({"a": ("text", "1", None)}, "a")
        store.call(("set", "a", "1"), 6)
        self.assertIsNone(session.touched(6))
        store.call(("set", "a", "2"), 6)
        store.call(("set", "a", "1"), 6)
        self.assertEqual(session.touched(6), ("deed", 3, "a"))

    def test_the_first_reason(self):
        kept = {key: ("text", "1", 20) for key in "abcd"}
        store, session = self.watching(kept, "c", "b")
        store.call(("del", "d"), 6)
        session.call(("watch", "a", "b", "d"), 6)
        self.assertEqual((session.watched, session.touched(6), session.touched(19), session.touched(20), session.touched(0)), (("a", "b", "c", "d"), None, None, ("ran out", "a"), None))
        store.call(("del", "a", "c", "b"), 7)
        self.assertEqual((session.touched(7), session.touched(30)), (("deed", 4, "a"), ("deed", 4, "a")))
        store, session = self.watching(kept, "c")
        store.call(words_of("setall a 2 b 2"), 6)
        session.call(("watch", "b", "a"), 6)
        store.block((("del", "d"), ("del", "b", "c"), ("del", "a")), 6)
        self.assertEqual(session.touched(6), ("deed", 4, "b"))
        # A key that was noted later is not touched by what was done ahead.
        store, session = self.watching(kept, "d")
        store.call(("del", "a"), 6)
        session.call(("watch", "a"), 6)
        store.call(("del", "d"), 7)
        store.call(("set", "a", "1"), 8)
        self.assertEqual(session.touched(8), ("deed", 4, "d"))

    def test_running_out(self):
        store, session = self.watching({"a": ("text", "1", 20), "b": ("text", "1", None)}, "a", "b", "z")
        self.assertEqual((session.touched(19), session.touched(20), session.touched(10 ** 15)), (None, ("ran out", "a"), ("ran out", "a")))
        store.call(words_of("set z 1 until 9"), 6)
        self.assertEqual((session.touched(8), session.touched(9)), (("deed", 3, "z"),) * 2)
        store, session = self.watching({"a": ("text", "1", 20)}, "a")
        session.call(("begin",), 19)
        self.assertEqual(session.call(("do",), 20), NONE)
        # A key that is swept is touched by the deed.
        store, session = self.watching({"a": ("text", "1", 20)}, "a")
        store.sweep(30, 9)
        self.assertEqual((session.touched(30), session.touched(0)), (("deed", 3, "a"),) * 2)
        # A key that is put out is, too.
        store = Store({"a": ("text", "1", None)}, bound=20, policy="idle")
        session = Session(store)
        session.call(("watch", "a", "b"), 1)
        store.call(words_of("set c 1"), 1)
        self.assertEqual((session.touched(1), store.units[-1][1][-1]), (("deed", 0, "a"), ("out", "a")))

    def test_watching_takes_what_has_run_out(self):
        kept = {"a": ("text", "1", 5), "b": ("text", "1", 4), "c": ("text", "1", 6), "d": ("text", "1", 1)}
        store, session = self.watching(kept, "c", "a", "z", "b", "a")
        self.assertEqual((store.units, store.last, session.watched), (((5, (("gone", "a"), ("gone", "b"))),), 5, ("a", "b", "c", "z")))
        self.assertIsNone(session.touched(5))
        self.assertEqual(session.touched(6), ("ran out", "c"))
        store.call(("set", "a", "1"), 5)
        self.assertEqual(session.touched(6), ("deed", 4, "a"))
        # A key that is watched already is taken, too, and is touched by this.
        store, session = self.watching({"a": ("text", "1", 9)}, "a")
        session.call(("watch", "b", "a"), 9)
        self.assertEqual((store.units, session.touched(9)), (((9, (("gone", "a"),)),), ("deed", 3, "a")))
        store, session = self.watching({}, *["k%d" % at for at in range(63)])
        self.assertEqual((len(session.watched), store.place), (63, 3))

    def test_unwatch(self):
        store, session = self.watching({"a": ("text", "1", None)}, "a")
        store.call(("del", "a"), 6)
        self.assertEqual((session.touched(6), session.call(("unwatch",), 6), session.touched(6), session.watched), (("deed", 3, "a"), DONE, None, ()))
        session.call(("watch", "a"), 6)
        session.call(("begin",), 6)
        self.assertEqual((session.call(("stop",), 6), session.watched), (DONE, ()))

    def test_two_sessions(self):
        store = Store({"n": ("text", "5", None)})
        ann, bob = Session(store), Session(store)
        for session in (ann, bob):
            for line in ("watch n", "begin", "add n 1"):
                session.call(words_of(line), 1)
        self.assertEqual((ann.call(("do",), 2), bob.call(("do",), 3)), (listed(number(6)), NONE))
        self.assertEqual((bob.call(("get", "n"), 3), store.place), (text("6"), 1))


class Runs(Case):
    def test_beside_the_model(self):
        seen = set()
        for seed in range(16):
            times = Times(seed + 600, [word for word in WORDS if word != "clear"] + ["set", "add", "expireat"] * 4, keys=2)
            first = {"t0": ("text", "3", 9), "l0": ("list", ("a", "b"), None)}
            bound, policy = ((None, "idle"), (110, "refuse"), (300, "idle"))[seed % 3]
            stores = [Store(first, bound=bound, policy=policy, place=4) for _ in range(2)]
            sessions = [[Session(stores[0]), Session(stores[0])], [PlainSession(stores[1]), PlainSession(stores[1])]]
            for _ in range(150):
                who = times.pick.randrange(2)
                command = self.command(times)
                replies = [row[who].call(command, times.now) for row in sessions]
                self.assertEqual(replies[0], replies[1], command)
                self.assertEqual(stores[0].units[-1:], stores[1].units[-1:])
                session, plain = sessions[0][who], sessions[1][who]
                self.assertEqual((session.queued, session.watched), (None if plain.queue is None else tuple(plain.queue), tuple(sorted(plain.notes))))
                self.assertEqual(session.is_broken, plain.broken)
                at = times.now + times.pick.randrange(5)
                self.assertEqual(session.touched(at), plain.touched(at))
                seen.add((command[0], replies[0] if replies[0][0] == "error" else replies[0][0]))
                if times.pick.random() < 0.1:
                    self.assertEqual(*[store.sweep(times.now, 2) for store in stores])
            self.assertEqual(stores[0].units, stores[1].units)
        for one in (("do", "list"), ("do", "none"), ("do", error("broken")), ("do", error("room")), ("do", error("idle")), ("begin", error("nested")), ("watch", error("nested"))):
            self.assertIn(one, seen)

    def command(self, times):
        what, pick = times.pick.random(), times.pick
        command = times.command()
        if what < 0.12:
            return (pick.choice(("begin", "begin", "stop", "unwatch")),)
        if what < 0.22:
            return ("do",)
        if what < 0.4:
            return ("watch", *[times.maker.key("keys") for _ in range(pick.randrange(1, 4))])
        if what < 0.43:
            return pick.choice((("watch",), ("watch", ""), ("begin", "x"), ("do", "x"), ("nope",), ("get",)))
        return command

    def test_texts(self):
        # What is queued is told as it is, and a list of lists is a reply.
        session = Session(Store({"a": ("list", ("x",), None)}))
        for line in ("begin", "range a 0 9", "scan 0"):
            session.call(words_of(line), 1)
        self.assertEqual(session.call(("do",), 1), listed(texts("x"), listed(text("0"), texts("a"))))
