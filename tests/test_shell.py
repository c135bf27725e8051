"""Stage 28: a shell."""

from deedline.client.blocks import Session
from deedline.errors import InvalidStore, InvalidText
from deedline.plain.grammar import WORDS
from deedline.store.core import Store
from deedline.text.lines import line_of, show, words_of
from deedline.text.shell import Shell
from tests.helpers import Case, not_of, values
from tests.model_store import Times
from tests.rows import number

END = 10 ** 15
KEPT = {"a": ("text", "1", 20), "b": ("list", ("x", "y"), 30), "c": ("text", "z", None)}


class Telling(Case):
    def told(self, shell, *pairs):
        for line, answer in pairs:
            many = len(shell)
            self.assertEqual((line, shell.tell(line)), (line, answer))
            self.assertEqual(len(shell), many + 1)

    def test_commands(self):
        shell = Shell(Store(now=7))
        self.assertEqual((shell.now, len(shell)), (7, 0))
        self.told(shell, ('set "a b" "x \\"y\\""', "done"), ('get "a b"', '"x \\"y\\""'), ("get b", "none"), (" add  n 1 ", "1"), ("pushr l a b", "2"), ("range l 0 -1", '["a", "b"]'), ("size", "3"),
                  ("nope", "!unknown"), ("get", "!words"), ('get ""', "!syntax"), ("begin", "done"), ("get n", '"queued"'), ("watch x", "!nested"), ("do", "!broken"), ("begin", "done"), ("get n", '"queued"'),
                  ("do", '["1"]'), ("unwatch", "done"), ("stop", "!idle"), ('""', "!unknown"), ("Time 5", "!unknown"), ('"size"', "3"), ("waitl q 0", "!unknown"))
        self.assertEqual(shell("get n"), '"1"')

    def test_time(self):
        store = Store(KEPT, now=7)
        shell = Shell(store)
        self.told(shell, ("time 12", "done"), ("left a", "8"), ("time 30", "done"), ("time 12", "done"), ("time 11", "error InvalidTime"), ("time 20", "done"), ("get a", "none"), ("time 19", "error InvalidTime"), ("get a", "none"),
                  ("time %d" % END, "done"), ("size", "1"))
        self.assertEqual((shell.now, store.now), (END, END))
        shell = Shell(Store(now=7))
        for line in ("time", "time x", "time 5 5", "time ''", 'time ""', "time -1", "time %d" % (END + 1), "time 007", "time +8", "time 8.0", "time -0", "time 10 ", "time now"):
            answer = "done" if line == "time 10 " else "error InvalidNumber"
            self.told(shell, (line, answer))
        self.assertEqual(shell.now, 10)
        self.told(shell, ("time 6", "error InvalidTime"), ('"time" "8"', "done"))
        self.assertEqual(shell.now, 8)

    def test_time_moves_no_store(self):
        store = Store(now=7)
        shell = Shell(store)
        self.told(shell, ("time 50", "done"))
        self.assertEqual((shell.now, store.now), (50, 7))
        self.told(shell, ("time 7", "done"), ("time 9", "done"), ("nope", "!unknown"))
        self.assertEqual((shell.now, store.now), (9, 9))

    def test_sweep(self):
        store = Store(KEPT, now=7)
        shell = Shell(store)
        self.told(shell, ("sweep 5", "0"), ("time 30", "done"), ("sweep 0", "0"), ("sweep 1", "1"), ("sweep 200", "1"), ("sweep 200", "0"))
        self.assertEqual((store.kept(), len(store.units), store.now), ({"c": KEPT["c"]}, 2, 30))
        for line in ("sweep", "sweep x", "sweep 201", "sweep -1", "sweep 1 1", "sweep 01", 'sweep ""'):
            self.told(shell, (line, "error InvalidNumber"))

    def test_a_store_that_was_called_later(self):
        store = Store(KEPT, now=7)
        shell = Shell(store)
        store.call(("size",), 15)
        self.told(shell, ("get a", "error InvalidTime"), ("sweep 5", "error InvalidTime"), ("sweep x", "error InvalidNumber"), ("nope", "error InvalidTime"), ("begin", "error InvalidTime"), ("", ""), ("a\"", "error ParseError"),
                  ("time 14", "error InvalidTime"), ("time x", "error InvalidNumber"), ("time 15", "done"), ("get a", '"1"'))

    def test_lines_that_are_not_done(self):
        store = Store(KEPT)
        shell = Shell(store)
        before = store.kept(), store.units
        self.told(shell, ("", ""), ("     ", ""), ('get "a', "error ParseError"), ('get a"', "error ParseError"), ("get \\", "error ParseError"), ("get " + "x" * 201, "error ParseError"), ("del" + " a" * 64, "error InvalidCommand"),
                  ("time" + " 5" * 64, "error InvalidCommand"), ("sweep" + " 5" * 64, "error InvalidCommand"), ("a" * 4001, "error InvalidText"), (" " * 4001, "error InvalidText"), (" " * 4000, ""), ('"' * 4001, "error InvalidText"),
                  ("x" * 4000, "error ParseError"), ("exists" + " a" * 63, "63"))
        self.assertEqual((store.kept(), store.units), before)

    def test_refused(self):
        for value in not_of(Store):
            self.refused(InvalidStore, None, Shell, value)
        shell = Shell(Store())
        for value in [value for value in values() if type(value) is not str] + ["\n", "get a\n", "\t", "a\x7f", "x" * 5000 + "\n"]:
            self.refused(InvalidText, value, shell.tell, value)
            self.refused(InvalidText, value, shell, value)
        self.assertEqual((len(shell), shell.now), (0, 0))

    def test_beside_a_session(self):
        for seed in range(6):
            times = Times(seed + 1700, list(WORDS), keys=2)
            options = {"bound": 500, "policy": "idle"} if seed % 2 else {}
            stores = [Store(**options), Store(**options)]
            shell, session = Shell(stores[0]), Session(stores[1])
            for at in range(150):
                command = times.command()
                if times.pick.random() < 0.2:
                    command = times.pick.choice((("begin",), ("do",), ("do",), ("watch", "t0", "l0"), ("stop",), ("unwatch",)))
                line = line_of(command)
                self.assertEqual(words_of(line), command)
                self.assertEqual(shell("time %d" % times.now), "done")
                self.assertEqual(shell(line), show(session.call(command, times.now)))
                if times.pick.random() < 0.1:
                    self.assertEqual(number(shell("sweep 2")), stores[1].sweep(times.now, 2))
                self.assertEqual((stores[0].units, stores[0].kept(), shell.now), (stores[1].units, stores[1].kept(), times.now))

    def test_answers_of_every_line(self):
        shell = Shell(Store(KEPT))
        for value in [value for value in values() if type(value) is str and "\n" not in value]:
            self.assertIs(type(shell(value)), str)
