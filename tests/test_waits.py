"""Stage 24: waiting."""

import collections

from deedline.client import waits as module
from deedline.client.waits import Waits
from deedline.errors import InvalidCommand, InvalidOperation, InvalidStore, InvalidText, InvalidTime, TooMany, UnknownName
from deedline.plain.store import replay
from deedline.store.core import Store
from tests.helpers import MOST, Case, not_commands, not_of, not_texts, not_times, values
from tests.model_store import Times
from tests.model_waits import WAITING, PlainWaits
from tests.plain import LINES, NONE, error, number, text, words_of

END = 10 ** 15
KEPT = {"l": ("list", ("x", "y"), 50), "m": ("list", ("z",), None), "t": ("text", "1", None), "s": ("sorted", ((1, "a"), (2, "b")), None), "o": ("list", ("w",), 3), "u": ("text", "", 3)}


def listed(*replies):
    return ("list", replies)


def told(waits, store):
    return (waits.names, [(waits.command(name), waits.until(name)) for name in waits.names], len(waits), store.kept(), store.units, store.now)


class Asking(Case):
    def asked(self, line, now=5, **options):
        """What is replied to a client that asks, the pair of what it waits for, and the last deeds."""
        store = Store(KEPT, **options)
        waits = Waits(store)
        reply = waits.ask("ann", words_of(line), now)
        wait = (waits.command("ann"), waits.until("ann")) if "ann" in waits else None
        self.assertEqual((reply is None, len(waits), store.now), (wait is not None, len(waits.names), now))
        return reply, wait, [deed for _, deeds in store.units for deed in deeds]

    def test_answered_at_once(self):
        for line, reply, deed in (
            ("waitl l 0", listed(text("l"), text("x")), "popl l"), ("waitr l 0", listed(text("l"), text("y")), "popr l"), ("waitl none m l 7", listed(text("m"), text("z")), "popl m"),
            ("waitl o l m 7", listed(text("l"), text("x")), "popl l"), ("waitz s least 0", listed(text("s"), text("a"), number(1)), "zpop s least"),
            ("waitz none s greatest 0", listed(text("s"), text("b"), number(2)), "zpop s greatest"), ("waitmove l m right left 0", text("y"), "move l m right left"),
            ("waitmove l new left right 3", text("x"), "move l new left right"), ("waitmove l l left right 3", text("x"), "move l l left right"), ("waitl l l 0", listed(text("l"), text("x")), "popl l"),
        ):
            self.assertEqual((line, *self.asked(line)), (line, reply, None, [words_of(deed)]))
        self.assertEqual(self.asked("waitmove l o left left 0"), (text("x"), None, [("gone", "o"), words_of("move l o left left")]))

    def test_waiting(self):
        for line, until in (("waitl none 0", None), ("waitr a b o 7", 12), ("waitz none least %d" % (END - 5), END), ("waitmove none m left right 1", 6), ("waitmove o u left right 0", None), ("waitl u 0", None)):
            self.assertEqual((line, *self.asked(line)), (line, None, (words_of(line), until), []))

    def test_first_errors(self):
        key = "k" * 41
        for line, code in (
            ("waitl", "words"), ("waitl l", "words"), ("waitr l", "words"), ("waitz s least", "words"), ("waitz s", "words"), ("waitmove l m left left", "words"), ("waitmove l m left left 0 0", "words"),
            ("waitl '' 0", "syntax"), ("waitl l '' x", "syntax"), ("waitl %s '' 0" % key, "size"), ("waitl '' %s 0" % key, "syntax"), ("waitl l x", "number"), ("waitl l -1", "range"), ("waitl l %d" % (END + 1), "range"),
            ("waitl l 01", "number"), ("waitl l ''", "number"), ("waitl l %d" % (MOST + 1), "number"), ("waitl l %d" % MOST, "range"), ("waitl l m", "number"), ("waitz s up 0", "syntax"), ("waitz s Least x", "syntax"), ("waitz s least x", "number"),
            ("waitz s least -3", "range"), ("waitz '' up x", "syntax"), ("waitz %s up x" % key, "size"), ("waitz s 0 least", "syntax"), ("waitmove '' m left left 0", "syntax"), ("waitmove l '' up left 0", "syntax"),
            ("waitmove l %s up left 0" % key, "size"), ("waitmove l m up left x", "syntax"), ("waitmove l m left up x", "syntax"), ("waitmove l m left left x", "number"), ("waitmove l m left left -1", "range"),
            ("waitmove t m left left x", "number"), ("waitl t x", "number"), ("waitl t -1", "range"), ("waitl t %d" % END, "range"), ("waitl l %d" % END, "range"), ("waitl t 0", "kind"), ("waitl l t 0", "kind"),
            ("waitl none s 0", "kind"), ("waitz l least 0", "kind"), ("waitz s t least 0", "kind"), ("waitmove t m left left 0", "kind"), ("waitmove l t left left 0", "kind"), ("waitmove none t left left 0", "kind"),
            ("waitmove o s left left 0", "kind"),
        ):
            self.assertEqual((line, *self.asked(line)), (line, error(code), None, []))
        self.assertEqual(self.asked("waitl l 0", now=END)[1], (("waitl", "l", "0"), None))
        self.assertEqual(self.asked("waitl m 0", now=END)[0], listed(text("m"), text("z")))
        self.assertEqual(self.asked("waitl m 1", now=END)[0], error("range"))
        self.assertEqual(self.asked("waitl m %d" % (END - 7), now=7)[0], listed(text("m"), text("z")))

    def test_words_that_are_no_keys(self):
        # Keys that look like the word, a side or a time are not looked at.
        for key in ("waitl", "waitz", "waitmove", "0", "left", "least"):
            for entry in (("list", ("x",), None), ("sorted", ((1, "x"),), None), ("text", "", None)):
                for line in ("waitl q 0", "waitz q least 0", "waitmove q r left left 0"):
                    store = Store({key: entry})
                    waits = Waits(store)
                    self.assertEqual((waits.ask("ann", words_of(line), 5), waits.serve(5), waits.names, store.units), (None, (), ("ann",), ()))

    def test_pops_that_reply_with_an_error(self):
        full = {"l": ("list", ("x",), None), "m": ("list", ("y",) * 200, None)}
        store = Store(full)
        self.assertEqual((Waits(store).ask("ann", words_of("waitmove l m left left 0"), 1), store.units), (error("size"), ()))
        # Only a store above its bound, which `apply` can make, has no room for a pop.
        store = Store(bound=30)
        store.apply((0, (("setall", "a", "x" * 50), ("pushr", "l", "x", "y"))))
        waits = Waits(store)
        self.assertEqual((waits.ask("ann", words_of("waitl l 0"), 1), len(waits), store.place), (error("room"), 0, 1))

    def test_an_error_in_being_served(self):
        store = Store()
        waits = Waits(store)
        self.assertEqual([waits.ask("ann", words_of("waitmove l t left left 0"), 1), waits.ask("bob", words_of("waitl l 0"), 1)], [None, None])
        store.call(words_of("set t 1"), 1)
        store.call(words_of("pushr l x"), 1)
        self.assertEqual((waits.serve(1), waits.names, store.units[-1]), ((("ann", error("kind")), ("bob", listed(text("l"), text("x")))), (), (1, (("popl", "l"),))))

    def test_refused(self):
        for value in not_of(Store):
            self.refused(InvalidStore, None, Waits, value)
        store = Store(KEPT, now=5)
        waits = Waits(store)
        waits.ask("ann", words_of("waitl none 9"), 5)
        before = told(waits, store)
        for value in not_texts():
            self.refused(InvalidText, value, waits.ask, value, None, None)
            self.refused(InvalidText, value, waits.cancel, value)
        self.refused(InvalidOperation, None, waits.ask, "ann", None, None)
        self.refused(InvalidOperation, None, waits.ask, "ann", ("waitl", "l", "0"), 5)
        for value in not_commands() + [("get", "a"), ("wait", "a", "0"), ("",), ("do",), ("Waitl", "l", "0")]:
            self.refused(InvalidCommand, None, waits.ask, "bob", value, None)
            self.refused(InvalidCommand, None, waits.ask, "bob", value, 6)
        for value in [*not_times(), 4, 0]:
            for line in ("waitl l 0", "waitl", "waitl t 0"):
                self.refused(InvalidTime, value, waits.ask, "bob", words_of(line), value)
            self.refused(InvalidTime, value, waits.end, value)
            self.refused(InvalidTime, value, waits.serve, value)
        for value in values() + ["bob"]:
            self.refused(UnknownName, value, waits.command, value)
            self.refused(UnknownName, value, waits.until, value)
            self.assertIs(value in waits, False)
        self.assertEqual(told(waits, store), before)
        self.assertTrue("ann" in waits)
        self.unlike(waits)

    def test_a_hundred_and_one(self):
        self.assertEqual(module.MAX_WAITING, 100)
        store = Store(KEPT)
        waits = Waits(store)
        for at in range(100):
            self.assertIsNone(waits.ask("n%d" % at, words_of("waitl none 0"), at))
        before = told(waits, store)
        self.refused(TooMany, 100, waits.ask, "more", words_of("waitl none 0"), 200)
        self.refused(InvalidTime, 98, waits.ask, "more", words_of("waitl none 0"), 98)
        self.refused(InvalidOperation, None, waits.ask, "n7", words_of("waitl none 0"), 200)
        self.assertEqual(told(waits, store), before)
        self.assertEqual([waits.ask("more", words_of(line), 200) for line in ("waitl m 0", "waitl t 0", "waitl")], [listed(text("m"), text("z")), error("kind"), error("words")])
        self.assertEqual((waits.cancel("n50"), waits.ask("more", words_of("waitl none 0"), 200), waits.names[-2:], len(waits)), (True, None, ("n99", "more"), 100))


class Serving(Case):
    def test_who_waited_longest(self):
        store = Store()
        waits = Waits(store)
        for name, line in (("ann", "waitl a 0"), ("bob", "waitr b a 0"), ("cyd", "waitl a 0"), ("dan", "waitz a greatest 0"), ("eve", "waitl b 0")):
            self.assertIsNone(waits.ask(name, words_of(line), 5))
        self.assertEqual((waits.names, waits.serve(5)), (("ann", "bob", "cyd", "dan", "eve"), ()))
        store.call(words_of("pushr a 1 2 3 4"), 6)
        self.assertEqual(waits.serve(6), (("ann", listed(text("a"), text("1"))), ("bob", listed(text("a"), text("4"))), ("cyd", listed(text("a"), text("2")))))
        self.assertEqual((waits.names, store.kept(), len(store.units)), (("dan", "eve"), {"a": ("list", ("3",), None)}, 4))
        store.call(("del", "a"), 7)
        store.call(words_of("zadd a 3 x 4 y"), 7)
        store.call(words_of("pushr b 9"), 7)
        self.assertEqual(waits.serve(8), (("dan", listed(text("a"), text("y"), number(4))), ("eve", listed(text("b"), text("9")))))
        self.assertEqual((waits.names, len(waits), store.now), ((), 0, 8))

    def test_one_who_is_served_can_make_an_elder_one_served(self):
        store = Store()
        waits = Waits(store)
        for name, line in (("ann", "waitl b 0"), ("bob", "waitmove a b left left 0"), ("cyd", "waitl a b 0")):
            waits.ask(name, words_of(line), 5)
        store.call(words_of("pushr a 1 2"), 6)
        self.assertEqual(waits.serve(6), (("bob", text("1")), ("ann", listed(text("b"), text("1"))), ("cyd", listed(text("a"), text("2")))))

    def test_ends(self):
        store = Store()
        waits = Waits(store)
        for name, line, now in (("ann", "waitl a 30", 0), ("bob", "waitl a 10", 5), ("cyd", "waitl a 5", 10), ("dan", "waitl a 0", 10), ("eve", "waitl a 20", 10), ("fay", "waitl a 21", 10)):
            waits.ask(name, words_of(line), now)
        self.assertEqual([waits.until(name) for name in waits.names], [30, 15, 15, None, 30, 31])
        self.assertEqual((waits.end(14), waits.end(15), waits.end(15), store.now), ((), (("bob", NONE), ("cyd", NONE)), (), 15))
        self.assertEqual((waits.end(40), waits.names, waits.end(END), store.place), ((("ann", NONE), ("eve", NONE), ("fay", NONE)), ("dan",), (), 0))

    def test_a_wait_that_has_ended_is_not_served(self):
        store = Store()
        waits = Waits(store)
        waits.ask("ann", words_of("waitl a 5"), 5)
        waits.ask("bob", words_of("waitl a 6"), 5)
        store.call(words_of("pushr a 1 2 3"), 10)
        self.assertEqual((waits.serve(10), waits.names), ((("bob", listed(text("a"), text("1"))),), ("ann",)))
        self.assertEqual((waits.serve(10), waits.end(10), waits.names), ((), (("ann", NONE),), ()))

    def test_what_has_run_out_is_not_served(self):
        store = Store()
        waits = Waits(store)
        waits.ask("ann", words_of("waitl a 0"), 5)
        store.call(words_of("pushr a 1"), 6)
        store.call(words_of("expireat a 9"), 6)
        self.assertEqual((waits.serve(9), waits.names), ((), ("ann",)))
        store.call(words_of("pushr a 2"), 9)
        self.assertEqual(waits.serve(9), (("ann", listed(text("a"), text("2"))),))

    def test_cancel(self):
        store = Store()
        waits = Waits(store)
        waits.ask("", words_of("waitl a 0"), 5)
        self.assertEqual(("" in waits, waits.cancel("x"), waits.cancel(""), waits.cancel(""), len(waits)), (True, False, True, False, 0))
        waits.ask("x", words_of("waitl a 0"), 5)
        waits.ask("", words_of("waitl a 0"), 5)
        self.assertEqual(waits.names, ("x", ""))


class Runs(Case):
    def command(self, times):
        """A command of those who wait, mostly right."""
        pick = times.pick
        word = pick.choice(WAITING)
        key = lambda: times.maker.key("sorted" if word == "waitz" else "list")
        span = pick.choice(("0", "0", "3", "9", "40", "x", "-1", str(END)))
        if word == "waitmove":
            command = (word, key(), key(), pick.choice(("left", "right", "right", "up")), pick.choice(("left", "right")), span)
        elif word == "waitz":
            command = (word, *[key() for _ in range(pick.randrange(1, 4))], pick.choice(("least", "greatest")), span)
        else:
            command = (word, *[key() for _ in range(pick.randrange(1, 4))], span)
        return command[:-1] if pick.random() < 0.09 else command

    def test_beside_the_model(self):
        words = [line.split(" ")[0] for line in LINES if line.split(" ")[0] not in ("clear", "scan")] + ["pushr", "zadd"] * 8 + ["del", "popl", "zpop"] * 8
        seen = collections.Counter()
        for seed in range(30):
            times = Times(seed + 700, words, keys=2)
            stores = [Store({"l0": ("list", ("a",), 30)}, bound=500 if seed % 3 == 2 else None) for _ in range(2)]
            waits, plain = Waits(stores[0]), PlainWaits(stores[1])
            for _ in range(200):
                what, name = times.pick.random(), times.pick.choice("abcdefgh")
                if what < 0.4 and name not in waits:
                    command = self.command(times)
                    reply = waits.ask(name, command, times.now)
                    self.assertEqual(reply, plain.ask(name, command, times.now), command)
                    seen[command[0], reply if reply is None or reply[0] == "error" else reply[0]] += 1
                elif what < 0.5:
                    self.assertEqual(waits.cancel(name), name in plain.names())
                    plain.row = [one for one in plain.row if one[0] != name]
                else:
                    command = times.command()
                    ended = waits.end(times.now)
                    self.assertEqual(ended, plain.end(times.now))
                    self.assertEqual(*[store.call(command, times.now) for store in stores])
                    served = waits.serve(times.now)
                    self.assertEqual(served, plain.serve(times.now))
                    seen["end"] += len(ended)
                    seen["serve"] += len(served)
                self.assertEqual((waits.names, stores[0].units[-3:]), (plain.names(), stores[1].units[-3:]))
                self.assertEqual([(name, waits.command(name), waits.until(name)) for name in waits.names], plain.row)
            self.assertEqual(stores[0].units, stores[1].units)
        for word in WAITING:
            self.assertTrue(seen[word, None] and seen[word, error("kind")] and seen[word, error("words")] and seen[word, error("number")], word)
        self.assertTrue(seen["end"] > 50 and seen["serve"] > 50, (seen["end"], seen["serve"]))

    def test_no_text_is_lost_or_told_twice(self):
        for seed in range(6):
            times = Times(seed + 800, ["size"])
            store, put, got = Store(), [], []
            waits = Waits(store)
            for at in range(150):
                name, now = times.pick.choice("abcdef"), at // 3
                pairs = list(waits.end(now))
                if times.pick.random() < 0.5:
                    put.append("x%d" % at)
                    store.call(("pushr", times.pick.choice("pq"), put[-1]), now)
                    pairs += waits.serve(now)
                elif name not in waits:
                    reply = waits.ask(name, times.pick.choice((("waitl", "p", "0"), ("waitr", "q", "p", "4"), ("waitmove", "q", "p", "left", "right", "9"), ("waitmove", "p", "r", "left", "right", "0"))), now)
                    pairs += [(name, reply)] if reply is not None else []
                    pairs += waits.serve(now)
                got += [reply[1][1][1] for _, reply in pairs if reply[0] == "list"]
                self.assertEqual(waits.serve(now), ())
                kept = [one for key in store for one in store.entry(key)[1]]
                self.assertEqual(sorted(got + kept), sorted(put))
            self.assertEqual(replay(store.units), store.kept())
