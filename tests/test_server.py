"""Stage 25: the server."""

import collections

from deedline.base.letters import write_command
from deedline.client import server as module
from deedline.client.server import Server
from deedline.errors import InvalidOperation, InvalidStore, InvalidText, InvalidTime, TooMany, UnknownName
from deedline.plain.grammar import WORDS
from deedline.plain.store import replay
from deedline.store.core import Store
from tests.helpers import Case, chance, not_of, not_texts, not_times, values
from tests.model_server import PlainServer
from tests.model_store import Times
from tests.plain import DONE, NONE, error, number, text, texts, words_of

QUEUED = text("queued")
WIDE = ["w%d" % at for at in range(63)]


def letters(*lines):
    return "".join(write_command(words_of(line)) for line in lines)


def listed(*replies):
    return ("list", replies)


def made(*names, **options):
    """A server with some clients."""
    server = Server(Store(**options))
    for name in names:
        server.join(name)
    return server


def told(server):
    return (server.names, server.waiting, [server.held(name) for name in server.names], server.store.kept(), server.store.units, server.store.now)


class ServerCase(Case):
    def says(self, server, now, *steps):
        """For each step a client, its lines, and all that is told: words of pairs."""
        for name, lines, *replies in steps:
            piece = letters(*lines.split("; ")) if lines else ""
            self.assertEqual((lines, server.feed(name, piece, now)), (lines, tuple(replies)))


class Clients(ServerCase):
    def test_example(self):
        server = Server(Store(now=10))
        self.assertEqual([server.join("ann"), server.join("bob"), server.feed("ann", write_command(("waitl", "q", "0")) + write_command(("get", "k")), 10), server.feed("bob", "c3:t5:pushr", 11),
                          server.waiting, server.held("ann")], [None, None, (), (), ("ann",), (("get", "k"),)])
        self.assertEqual(server.feed("bob", ";t1:q;t1:x;;", 12), (("bob", number(1)), ("ann", texts("q", "x")), ("ann", NONE)))
        self.assertEqual(told(server), (("ann", "bob"), (), [(), ()], {}, ((12, (("pushr", "q", "x"),)), (12, (("popl", "q"),))), 12))

    def test_joining_and_leaving(self):
        store = Store()
        server = Server(store)
        self.assertIs(server.store, store)
        self.assertEqual((server.names, server.waiting), ((), ()))
        for name in ("b", "", "a b"):
            self.assertIsNone(server.join(name))
        self.assertEqual((server.names, server.held("")), (("", "a b", "b"), ()))
        self.assertIsNone(server.leave(""))
        self.assertEqual(server.names, ("a b", "b"))
        self.refused(UnknownName, "", server.held, "")
        self.refused(UnknownName, "", server.leave, "")
        server.join("")

    def test_refused(self):
        for value in not_of(Store):
            self.refused(InvalidStore, None, Server, value)
        server = made("ann", now=5)
        server.feed("ann", letters("waitl q 9", "get a") + "c1:", 5)
        before = told(server)
        for value in not_texts():
            for call in (server.join, server.leave, server.held):
                self.refused(InvalidText, value, call, value)
            self.refused(InvalidText, value, server.feed, value, 5, None)
        self.refused(InvalidOperation, None, server.join, "ann")
        for call in (server.leave, server.held):
            self.refused(UnknownName, "bob", call, "bob")
        self.refused(UnknownName, "bob", server.feed, "bob", 5, None)
        for value in [value for value in values() if type(value) is not str or len(value) > 4000]:
            self.refused(InvalidOperation, None, server.feed, "ann", value, None)
        for value in [*not_times(), 0, 4]:
            self.refused(InvalidTime, value, server.feed, "ann", "x", value)
            self.refused(InvalidTime, value, server.tick, value)
        self.assertEqual(told(server), before)
        self.assertEqual(server.feed("ann", "t4:ping;;", 6), ())
        self.assertEqual(server.held("ann"), (("get", "a"), ("ping",)))

    def test_long_pieces(self):
        server = made("ann", "bob")
        ping = letters("ping")
        self.assertEqual(server.feed("ann", (ping * 1000)[:4000], 1), (("ann", DONE),) * (4000 // len(ping)))
        self.refused(InvalidOperation, None, server.feed, "bob", "x" * 4001, 1)
        self.assertEqual(server.feed("bob", "x" * 4000, 1), (("bob", error("syntax")),))

    def test_a_hundred_clients(self):
        self.assertEqual(module.MAX_CLIENTS, 100)
        server = made(*["n%d" % at for at in range(100)])
        self.refused(TooMany, 100, server.join, "more")
        self.refused(InvalidOperation, None, server.join, "n5")
        server.leave("n5")
        server.join("more")
        self.assertEqual(len(server.names), 100)
        for at in range(100):
            if at != 5:
                server.feed("n%d" % at, letters("waitl q 0"), 1)
        server.feed("more", letters("waitl q 0"), 1)
        self.assertEqual((len(server.waiting), server.waiting[-1]), (100, "more"))

    def test_time(self):
        server = made("ann", now=5)
        self.assertEqual((server.tick(5), server.feed("ann", "", 7), server.store.now, server.tick(9), server.store.now), ((), (), 7, (), 9))
        self.refused(InvalidTime, 8, server.feed, "ann", letters("ping"), 8)
        self.assertEqual(server.feed("ann", "c1:", 9), ())


class Talking(ServerCase):
    def test_words(self):
        server = made("ann")
        self.says(server, 1, ("ann", "ping", ("ann", DONE)), ("ann", "set a 1; get a", ("ann", DONE), ("ann", text("1"))), ("ann", "nope", ("ann", error("unknown"))), ("ann", ""),
                  ("ann", "get", ("ann", error("words"))), ("ann", "waitl a", ("ann", error("words"))), ("ann", "waitl a 0", ("ann", error("kind"))), ("ann", "queued", ("ann", error("unknown"))))
        for line in ("ping x", "close x", "listen", "match", "events", "publish", "publish a", "publish a b c", "begin x", "watch"):
            self.says(server, 1, ("ann", line, ("ann", error("words"))))
        for word in ("unlisten", "unmatch", "unevents", "listen", "match", "events"):
            self.assertEqual(server.feed("ann", write_command((word, *WIDE)), 1), (("ann", number(0 if word.startswith("un") else 63)),))
            server.feed("ann", write_command((word if word.startswith("un") else "un" + word, *WIDE)), 1)
        self.says(server, 1, ("ann", "unlisten; unmatch; unevents", *[("ann", number(0))] * 3), ("ann", "listen a a; match a ''; events x y; unlisten b; unmatch a; unevents",
                  *[("ann", number(many)) for many in (1, 3, 5, 5, 4, 2)]))

    def test_cut_at_each_sign(self):
        piece = letters("set a 1", "begin", "append a ;;", "get a", "do", "listen ch", "publish ch 'x'", "waitl q 5")
        whole = made("ann").feed("ann", piece, 3)
        self.assertEqual(len(whole), 8)
        for at in range(len(piece) + 1):
            server = made("ann")
            self.assertEqual(server.feed("ann", piece[:at], 3) + server.feed("ann", piece[at:], 3), whole)
            self.assertEqual((server.waiting, server.store.units), (("ann",), ((3, (("set", "a", "1"),)), (3, (("append", "a", ";;"),)))))
        server = made("ann")
        self.assertEqual(tuple(pair for sign in piece for pair in server.feed("ann", sign, 3)), whole)

    def test_bad_signs(self):
        for at, junk in enumerate(("x", "c0", "c65", "c1:x", "c1:t201", "c2:t1:a;;", "c1:t1:\n", "\n", " ", "c1:t01")):
            server = made("ann", "bob")
            self.assertEqual(server.feed("ann", letters("set a 1", "get a") + junk + letters("del a"), 3), (("ann", DONE), ("ann", text("1")), ("ann", error("syntax"))))
            self.assertEqual((server.names, server.store.kept()), (("bob",), {"a": ("text", "1", None)}))
            self.refused(UnknownName, "ann", server.feed, "ann", "", 3)
            server.join("ann")
            self.says(server, 3, ("ann", "get a", ("ann", text("1"))))

    def test_a_bad_sign_behind_a_wait(self):
        server = made("ann", "bob")
        self.assertEqual(server.feed("ann", letters("waitl q 0", "get a") + "junk", 3), ())
        self.assertEqual((server.held("ann"), server.names, server.feed("ann", letters("get b"), 3), server.held("ann")), ((("get", "a"),), ("ann", "bob"), (), (("get", "a"),)))
        self.says(server, 4, ("bob", "pushr q x; get c", ("bob", number(1)), ("ann", texts("q", "x")), ("ann", NONE), ("ann", error("syntax")), ("bob", NONE)))
        self.assertEqual(server.names, ("bob",))
        server = made("ann")
        server.feed("ann", letters("waitl q 5") + "x", 3)
        self.assertEqual((server.tick(7), server.tick(8), server.names), ((), (("ann", NONE), ("ann", error("syntax"))), ()))

    def test_a_bad_sign_in_a_block(self):
        server = made("ann")
        self.assertEqual(server.feed("ann", letters("begin", "set a 1") + "c1:t2:do;x", 3), (("ann", DONE), ("ann", QUEUED), ("ann", error("syntax"))))
        self.assertEqual((server.names, server.store.units), ((), ()))

    def test_closing(self):
        server = made("ann", "bob")
        self.says(server, 1, ("ann", "listen ch; watch a; begin; set a 1", ("ann", number(1)), ("ann", DONE), ("ann", DONE), ("ann", QUEUED)),
                  ("ann", "close; set b 1; junk", ("ann", DONE)))
        self.assertEqual((server.names, server.store.kept()), (("bob",), {}))
        server.join("ann")
        self.says(server, 1, ("bob", "publish ch x", ("bob", number(0))), ("ann", "do; set b 1; begin; do; ping", ("ann", error("idle")), ("ann", DONE), ("ann", DONE), ("ann", listed()), ("ann", DONE)),
                  ("ann", "waitl q 0; get b; close; get b"))
        self.assertEqual((server.held("ann"), server.waiting), ((("get", "b"), ("close",), ("get", "b")), ("ann",)))
        self.says(server, 1, ("bob", "pushr q x; ping", ("bob", number(1)), ("ann", texts("q", "x")), ("ann", text("1")), ("ann", DONE), ("bob", DONE)))
        self.assertEqual((server.names, server.waiting), (("bob",), ()))
        server.join("ann")
        self.says(server, 1, ("ann", "waitl q 0; get b; events *"))
        server.leave("ann")
        self.assertEqual((server.waiting, server.names), ((), ("bob",)))
        server.join("ann")
        self.says(server, 1, ("bob", "pushr q x", ("bob", number(1))), ("ann", "", ), ("ann", "len q", ("ann", number(1))))

    def test_half_a_command_is_forgotten(self):
        server = made("ann")
        server.feed("ann", "c1:t4:pi", 1)
        server.leave("ann")
        server.join("ann")
        self.says(server, 1, ("ann", "ping", ("ann", DONE)))


class Blocks(ServerCase):
    def test_words_that_a_block_does_not_know(self):
        for line in ("waitl q 0", "waitz q least 0", "listen a", "unlisten", "publish a b", "ping", "match a", "events a"):
            server = made("ann")
            self.says(server, 1, ("ann", "begin; set a 1", ("ann", DONE), ("ann", QUEUED)), ("ann", line, ("ann", error("unknown"))), ("ann", "do; get a", ("ann", error("broken")), ("ann", NONE)))
        server = made("ann")
        self.says(server, 1, ("ann", "begin; set a 1; get a; do", ("ann", DONE), ("ann", QUEUED), ("ann", QUEUED), ("ann", listed(DONE, text("1")))), ("ann", "begin; close", ("ann", DONE), ("ann", DONE)))
        self.assertEqual(server.names, ())

    def test_close_with_too_many_texts(self):
        server = made("ann")
        self.says(server, 1, ("ann", "begin; close x", ("ann", DONE), ("ann", error("words"))))
        self.assertEqual(server.names, ("ann",))

    def test_watches(self):
        server = made("ann", "bob")
        self.says(server, 1, ("ann", "watch a; begin; set b 1", ("ann", DONE), ("ann", DONE), ("ann", QUEUED)), ("bob", "set a 1", ("bob", DONE)), ("ann", "do", ("ann", NONE)))

    def test_a_block_serves_behind_its_reply(self):
        server = made("ann", "bob", "cyd")
        self.says(server, 1, ("bob", "waitl q 0; get x"), ("cyd", "waitr q 0"), ("ann", "begin; pushr q 1 2 3; set x y; popl q; do; len q", ("ann", DONE), ("ann", QUEUED), ("ann", QUEUED), ("ann", QUEUED),
                  ("ann", listed(number(3), DONE, text("1"))), ("bob", texts("q", "2")), ("cyd", texts("q", "3")), ("bob", text("y")), ("ann", number(0))))


class Waiting(ServerCase):
    def test_the_row(self):
        # Ann's push serves bob, then cyd; bob's held push serves dan, whose turn comes behind cyd's.
        server = made("ann", "bob", "cyd", "dan")
        self.says(server, 1, ("bob", "waitl q 0; pushr r 1; ping"), ("cyd", "waitl q 0; len r; waitl r 0; ping"), ("dan", "waitl r 0; set x 1; ping"), ("ann", "pushr q 1 2; get x",
                  ("ann", number(2)), ("bob", texts("q", "1")), ("cyd", texts("q", "2")), ("bob", number(1)), ("dan", texts("r", "1")), ("bob", DONE), ("cyd", number(0)), ("dan", DONE), ("dan", DONE), ("ann", text("1"))))
        self.assertEqual((server.waiting, server.held("cyd")), (("cyd",), (("ping",),)))

    def test_a_client_holds_on_while_it_waits(self):
        server = made("ann", "bob")
        self.says(server, 1, ("ann", "waitl q 0; waitl q 0; ping; waitl q 7; ping"), ("bob", "pushr q a", ("bob", number(1)), ("ann", texts("q", "a"))))
        self.assertEqual((server.held("ann"), server.waiting), ((("ping",), ("waitl", "q", "7"), ("ping",)), ("ann",)))
        self.says(server, 2, ("bob", "pushr q b c", ("bob", number(2)), ("ann", texts("q", "b")), ("ann", DONE), ("ann", texts("q", "c")), ("ann", DONE)))

    def test_ends(self):
        server = made("ann", "bob", "cyd")
        self.says(server, 1, ("ann", "waitl q 9; ping; waitl q 1"), ("bob", "waitl q 5; pushr q x; len q"), ("cyd", "waitl r 5; set y 1"))
        self.assertEqual(server.tick(5), ())
        # Both have ended at 6: who asked earlier goes first; what bob pushes serves ann.
        self.assertEqual(server.tick(6), (("bob", NONE), ("cyd", NONE), ("bob", number(1)), ("ann", texts("q", "x")), ("bob", number(0)), ("cyd", DONE), ("ann", DONE)))
        self.assertEqual((server.waiting, server.tick(6), server.tick(7)), (("ann",), (), (("ann", NONE),)))

    def test_a_feed_begins_like_a_tick(self):
        server = made("ann", "bob")
        self.says(server, 1, ("ann", "waitl q 5; pushr q x"))
        self.says(server, 6, ("bob", "popl q", ("ann", NONE), ("ann", number(1)), ("bob", text("x"))))
        self.says(server, 6, ("ann", "waitl q 5; close"))
        # The client is closed at the beginning of the call: what it sends is dropped.
        self.says(server, 11, ("ann", "set z 1", ("ann", NONE), ("ann", DONE)))
        self.assertEqual((server.names, server.store.kept()), (("bob",), {}))

    def test_an_own_wait_ends_ahead_of_what_comes(self):
        server = made("ann")
        self.says(server, 1, ("ann", "waitl q 5; ping"))
        self.says(server, 6, ("ann", "get a", ("ann", NONE), ("ann", DONE), ("ann", NONE)))

    def test_errors_in_being_served(self):
        server = made("ann", "bob")
        self.says(server, 1, ("ann", "waitmove q t left left 0; ping"), ("bob", "set t 1; pushr q x", ("bob", DONE), ("bob", number(1)), ("ann", error("kind")), ("ann", DONE)))
        self.assertEqual(server.store.kept(), {"t": ("text", "1", None), "q": ("list", ("x",), None)})


class Messages(ServerCase):
    def test_publishing(self):
        server = made("ann", "bob", "cyd")
        self.says(server, 1, ("cyd", "listen news; match n*; match *", ("cyd", number(1)), ("cyd", number(2)), ("cyd", number(3))), ("ann", "listen news", ("ann", number(1))))
        self.says(server, 1, ("bob", "publish news hi; ping", ("bob", number(4)), ("ann", texts("message", "news", "hi")), ("cyd", texts("message", "news", "hi")), ("cyd", texts("match", "*", "news", "hi")),
                              ("cyd", texts("match", "n*", "news", "hi")), ("bob", DONE)), ("ann", "publish news ''; unlisten; publish news x", ("ann", number(4)), ("ann", texts("message", "news", "")),
                              ("cyd", texts("message", "news", "")), ("cyd", texts("match", "*", "news", "")), ("cyd", texts("match", "n*", "news", "")), ("ann", number(0)), ("ann", number(3)),
                              ("cyd", texts("message", "news", "x")), ("cyd", texts("match", "*", "news", "x")), ("cyd", texts("match", "n*", "news", "x"))))

    def test_events(self):
        server = made("ann", "bob", "cyd", now=1)
        self.says(server, 1, ("bob", "events q *", ("bob", number(2))), ("ann", "events k?", ("ann", number(1))), ("cyd", "waitl q 0; set k1 x"))
        event = lambda name, *told: (name, texts("event", *told))
        self.assertEqual(server.feed("ann", letters("pushr q 1"), 2), (
            ("ann", number(1)), event("bob", "*", "made", "q"), event("bob", "q", "made", "q"), ("cyd", texts("q", "1")), event("bob", "*", "dropped", "q"), event("bob", "q", "dropped", "q"),
            ("cyd", DONE), event("ann", "k?", "made", "k1"), event("bob", "*", "made", "k1")))
        self.says(server, 3, ("bob", "set k1 y until 4", ("bob", DONE), event("ann", "k?", "changed", "k1"), event("bob", "*", "changed", "k1")), ("bob", "set k1 y until 4", ("bob", DONE)))
        self.says(server, 4, ("cyd", "watch k1 k2; ping", ("cyd", DONE), event("ann", "k?", "gone", "k1"), event("bob", "*", "gone", "k1"), ("cyd", DONE)))
        self.says(server, 4, ("cyd", "unevents; begin; set k1 1; del k1; do", ("cyd", number(0)), ("cyd", DONE), ("cyd", QUEUED), ("cyd", QUEUED), ("cyd", listed(DONE, number(1))),
                              event("ann", "k?", "made", "k1"), event("ann", "k?", "dropped", "k1"), event("bob", "*", "made", "k1"), event("bob", "*", "dropped", "k1")))

    def test_messages_while_waiting_and_in_blocks(self):
        server = made("ann", "bob")
        self.says(server, 1, ("ann", "listen ch; waitl q 0", ("ann", number(1))), ("bob", "publish ch x", ("bob", number(1)), ("ann", texts("message", "ch", "x"))))
        self.says(server, 1, ("bob", "listen ch; begin; get a", ("bob", number(1)), ("bob", DONE), ("bob", QUEUED)))
        server.leave("ann")
        server.join("ann")
        self.says(server, 1, ("ann", "publish ch y", ("ann", number(1)), ("bob", texts("message", "ch", "y"))), ("bob", "do", ("bob", listed(NONE))))

    def test_a_hundred_and_one_more(self):
        server = made("ann")
        names = ["n%d" % at for at in range(101)]
        piece = write_command(("listen", *names[:60])) + write_command(("match", *names[:41])) + write_command(("events", *names[:40]))
        piece += letters("listen n1", "listen x", "unlisten n1", "events x")
        replies = (number(60), error("size"), number(100), number(100), error("size"), number(99), number(100))
        self.assertEqual(server.feed("ann", piece, 1), tuple(("ann", reply) for reply in replies))

    def test_room_and_putting_out(self):
        server = made("ann", "bob", bound=40, policy="idle")
        self.says(server, 1, ("bob", "events *", ("bob", number(1))), ("ann", "set a 1; set b 1", ("ann", DONE), ("bob", texts("event", "*", "made", "a")), ("ann", DONE), ("bob", texts("event", "*", "made", "b"))))
        self.says(server, 1, ("ann", "set c 1; set d %s" % ("x" * 30), ("ann", DONE), ("bob", texts("event", "*", "made", "c")), ("bob", texts("event", "*", "out", "a")), ("ann", error("room"))))


class Runs(ServerCase):
    def line(self, times, names):
        """A command of a client."""
        pick, what = times.pick, times.pick.random()
        if what < 0.25:
            return pick.choice((("waitl", "l0", "0"), ("waitr", "l1", "l0", "9"), ("waitz", "z0", "z1", "least", "5"), ("waitmove", "l0", "l1", "left", "right", "3"), ("waitl", "l2", "0"), ("waitl", "t0", "1")))
        if what < 0.4:
            return pick.choice((("listen", "ch", "t0"), ("match", "c*"), ("events", "l?", "z*"), ("events", "*"), ("unlisten",), ("unmatch", "x"), ("unevents",), ("ping",), ("publish", "ch", "hello"),
                                ("publish", "other", ""), ("publish",), ("close",), ("close", "x"), ("listen", *WIDE), ("match", *WIDE)))
        if what < 0.55:
            return pick.choice((("begin",), ("do",), ("do",), ("stop",), ("watch", "l0", "t0"), ("unwatch",), ("nope",)))
        return times.command()

    def test_beside_the_model(self):
        words = [word for word in WORDS if word not in ("clear",)] + ["pushr", "zadd", "pushl"] * 12 + ["expireat", "set"] * 3
        seen = collections.Counter()
        for seed in range(24):
            times = Times(seed + 1000, words, keys=3)
            options = {"bound": 600, "policy": "idle"} if seed % 3 == 1 else {}
            server, plain = Server(Store(**options)), PlainServer(Store(**options))
            open_letters = collections.defaultdict(str)
            for _ in range(220):
                names, pick = server.names, times.pick
                if not names or pick.random() < 0.1 and len(names) < 6:
                    name = pick.choice([name for name in "abcdefg" if name not in names])
                    server.join(name)
                    plain.join(name)
                    open_letters[name] = ""
                elif pick.random() < 0.02:
                    name = pick.choice(names)
                    server.leave(name)
                    plain.leave(name)
                elif pick.random() < 0.15:
                    times.now += pick.randrange(6)
                    reply = server.tick(times.now)
                    self.assertEqual(reply, plain.tick(times.now))
                else:
                    name = pick.choice(names)
                    whole = open_letters[name] + "".join(write_command(self.line(times, names)) for _ in range(pick.choice((0, 1, 1, 2, 3))))
                    whole += pick.choice("x\n;") if pick.random() < 0.02 else ""
                    end = len(whole) if pick.random() < 0.6 else pick.randrange(len(whole) + 1)
                    piece, open_letters[name] = whole[:end][:4000], whole[:end][4000:] + whole[end:]
                    reply = server.feed(name, piece, times.now)
                    self.assertEqual(reply, plain.feed(name, piece, times.now))
                    for who, one in reply:
                        seen[one[0] if one[0] != "error" else one] += 1
                        seen["message"] += one[0] == "list" and one[1][:1] in ((text("message"),), (text("match"),), (text("event"),))
                self.alike(server, plain)
            self.assertEqual(replay(server.store.units), server.store.kept())
            seen["served"] += plain.served
        for one in ("message", "served", error("syntax"), error("broken"), error("size"), error("unknown"), error("words"), error("kind"), "list", "none"):
            self.assertTrue(seen[one], one)

    def alike(self, server, plain):
        self.assertEqual((server.names, server.waiting, server.store.now), (tuple(sorted(plain.readers)), plain.waits.names(), plain.store.now))
        self.assertEqual([server.held(name) for name in server.names], [tuple(thing for thing in plain.holds[name] if type(thing) is tuple) for name in server.names])
        self.assertEqual((server.store.units[-4:], server.store.kept()), (plain.store.units[-4:], plain.store.kept()))
        # Behind each call no waiting client could be served.
        before = plain.store.place
        self.assertIsNone(plain.waits.serve_next(plain.store.now))
        self.assertEqual(plain.store.place, before)

    def test_whole_or_in_pieces(self):
        # At each time at which one server gets the end of a command, the other gets the whole of it.
        for seed in range(10):
            times = Times(seed + 1100, ["pushr", "zadd", "set", "get", "popl", "del"], keys=2)
            pick = times.pick
            whole, cut = made("a", "b", "c"), made("a", "b", "c")
            rests, told_whole, told_cut = dict.fromkeys("abc", ""), [], []
            for _ in range(150):
                name = pick.choice("abc")
                if name not in whole.names:
                    continue
                if rests[name]:
                    at = pick.randrange(1, len(rests[name][1]) + 1) if pick.random() < 0.5 else len(rests[name][1])
                    all_letters, rest = rests[name]
                    told_cut += cut.feed(name, rest[:at], times.now)
                    if at == len(rest):
                        told_whole += whole.feed(name, all_letters, times.now)
                        rests[name] = ""
                    else:
                        told_whole += whole.tick(times.now)
                        rests[name] = (all_letters, rest[at:])
                else:
                    command = self.line(times, "abc")
                    piece = write_command(command if command[0] != "close" else ("ping",))
                    rests[name] = (piece, piece)
                self.assertEqual(told_whole, told_cut)
            self.assertEqual((whole.store.units, whole.waiting, [whole.held(name) for name in whole.names]), (cut.store.units, cut.waiting, [cut.held(name) for name in cut.names]))

    def test_no_text_is_lost_or_told_twice(self):
        for seed in range(8):
            pick, server, put, got = chance(seed + 60), made(*"abcd"), [], []
            for now in range(160):
                name = pick.choice("abcd")
                if pick.random() < 0.5:
                    put.append("x%d" % now)
                    piece = write_command((pick.choice(("pushl", "pushr")), pick.choice("pq"), put[-1]))
                else:
                    piece = write_command(pick.choice((("waitl", "p", "q", "0"), ("waitr", "q", "9"), ("waitmove", "p", "q", "left", "left", "0"), ("waitmove", "q", "p", "right", "left", "3"))))
                for _, reply in server.feed(name, piece, now // 2):
                    if reply[0] == "list":
                        got.append(reply[1][1][1])
            held = [command[2] for name in "abcd" for command in server.held(name) if command[0].startswith("push")]
            kept = [one for key in server.store for one in server.store.entry(key)[1]]
            self.assertEqual(sorted(got + kept + held), sorted(put))
