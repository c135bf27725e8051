"""Stage 11: texts."""

from deedline.errors import InvalidCommand, InvalidStore
from deedline.plain import texts as module
from deedline.plain.texts import do_text
from tests.helpers import ENTRIES, LEAST, MOST, not_stores
from tests.plain import DONE, NONE, PlainCase, error, number, text, texts

WORDS = ("add", "append", "get", "getall", "grab", "length", "part", "set", "setall")
KEPT = {"t": ("text", "hello", None), "u": ("text", "12", 70), "l": ENTRIES["list"], "s": ("set", ("x",), 5)}


class Texts(PlainCase):
    def test_constants(self):
        self.assertEqual(module.TEXT_WORDS, WORDS)

    def test_get_and_length(self):
        self.lines(do_text, KEPT, ("get t", text("hello"), {}), ("get u", text("12"), {}), ("get x", NONE, {}),
                   ("get l", error("kind"), {}), ("length t", number(5), {}), ("length u", number(2), {}),
                   ("length x", number(0), {}), ("length s", error("kind"), {}))
        self.does(do_text, ("get", "e"), {"e": ("text", "", 0)}, text(""), {"e": ("text", "", 0)})

    def test_set(self):
        self.lines(
            do_text, KEPT,
            ("set t a", DONE, {"t": ("text", "a", None)}), ("set u a", DONE, {"u": ("text", "a", None)}),
            ("set x ''", DONE, {"x": ("text", "", None)}), ("set l a", DONE, {"l": ("text", "a", None)}),
            ("set s a keep", DONE, {"s": ("text", "a", 5)}), ("set u a keep", DONE, {"u": ("text", "a", 70)}),
            ("set t a keep", DONE, {"t": ("text", "a", None)}), ("set x a keep", DONE, {"x": ("text", "a", None)}),
            ("set u a until 9", DONE, {"u": ("text", "a", 9)}), ("set x a until 0", DONE, {"x": ("text", "a", 0)}),
            ("set t a until 1000000000000000", DONE, {"t": ("text", "a", 10 ** 15)}),
            ("set t a new", NONE, {}), ("set l a new", NONE, {}), ("set x a new", DONE, {"x": ("text", "a", None)}),
            ("set x a old", NONE, {}), ("set t a old", DONE, {"t": ("text", "a", None)}),
            ("set s a old keep", DONE, {"s": ("text", "a", 5)}), ("set x a new keep", DONE, {"x": ("text", "a", None)}),
            ("set x a new until 6", DONE, {"x": ("text", "a", 6)}), ("set x a until 6 old", NONE, {}))

    def test_set_that_tells_what_was(self):
        self.lines(
            do_text, KEPT,
            ("set t a was", text("hello"), {"t": ("text", "a", None)}), ("set x a was", NONE, {"x": ("text", "a", None)}),
            ("set t a was new", text("hello"), {}), ("set x a old was", NONE, {}), ("set l a was", error("kind"), {}),
            ("set l a new was", error("kind"), {}), ("set s a was keep old", error("kind"), {}),
            ("set u a was keep", text("12"), {"u": ("text", "a", 70)}), ("set x a was new", NONE, {"x": ("text", "a", None)}),
            ("set u a old was until 8", text("12"), {"u": ("text", "a", 8)}))

    def test_append(self):
        self.lines(
            do_text, KEPT, ("append t ''", number(5), {}), ("append x ''", number(0), {}), ("append l ''", error("kind"), {}),
            ("append t !", number(6), {"t": ("text", "hello!", None)}), ("append u 3", number(3), {"u": ("text", "123", 70)}),
            ("append x ab", number(2), {"x": ("text", "ab", None)}))
        for many, more, told in ((199, "b", 200), (200, "", 200), (0, "b" * 200, 200), (200, "b", None), (199, "bb", None),
                                 (1, "b" * 200, None)):
            kept = {"t": ("text", "a" * many, 5)}
            after = {"t": ("text", "a" * many + more, 5)} if told else kept
            self.does(do_text, ("append", "t", more), kept, number(told) if told else error("size"), after)

    def test_part(self):
        for line, told in (
            ("part t 0 -1", "hello"), ("part t 1 3", "ell"), ("part t -3 -2", "ll"), ("part t 4 9", "o"), ("part t 5 9", ""),
            ("part t -99 0", "h"), ("part t 3 1", ""), ("part t 0 -6", ""), ("part x 0 -1", ""), ("part u 1 1", "2"),
            ("part t %d %d" % (LEAST, MOST), "hello"), ("part t %d %d" % (MOST, LEAST), ""),
        ):
            self.lines(do_text, KEPT, (line, text(told), {}))
        self.lines(do_text, KEPT, ("part l 0 1", error("kind"), {}))

    def test_add(self):
        self.lines(
            do_text, KEPT, ("add u 30", number(42), {"u": ("text", "42", 70)}), ("add u -13", number(-1), {"u": ("text", "-1", 70)}),
            ("add u -12", number(0), {"u": ("text", "0", 70)}), ("add u 0", number(12), {}), ("add x 0", number(0), {"x": ("text", "0", None)}),
            ("add x -5", number(-5), {"x": ("text", "-5", None)}), ("add t 1", error("number"), {}), ("add s 1", error("kind"), {}),
            ("add x %d" % LEAST, number(LEAST), {"x": ("text", str(LEAST), None)}))
        for told, more, total in ((MOST, 0, MOST), (MOST, 1, None), (MOST - 1, 1, MOST), (LEAST, -1, None), (LEAST, MOST, -1),
                                  (LEAST + 1, -1, LEAST), (MOST, MOST, None), (LEAST, LEAST, None), (-1, LEAST, None)):
            kept = {"n": ("text", str(told), 9)}
            after = kept if total is None else {"n": ("text", str(total), 9)}
            self.does(do_text, ("add", "n", str(more)), kept, error("range") if total is None else number(total), after)
        for told in ("", "007", "-0", "+1", "1.0", " 1", str(MOST + 1), "9" * 200):
            self.does(do_text, ("add", "n", str(MOST)), {"n": ("text", told, 9)}, error("number"), {"n": ("text", told, 9)})

    def test_grab(self):
        self.lines(do_text, KEPT, ("grab t", text("hello"), {"t": None}), ("grab u", text("12"), {"u": None}),
                   ("grab x", NONE, {}), ("grab l", error("kind"), {}))
        self.does(do_text, ("grab", "t"), {"t": ("text", "", 5)}, text(""), {})

    def test_getall(self):
        self.lines(do_text, KEPT, ("getall t", texts("hello"), {}), ("getall x", texts(None), {}),
                   ("getall u l x t u s", texts("12", None, None, "hello", "12", None), {}))
        self.assertEqual(do_text(("getall", *["t"] * 63), KEPT)[0], texts(*["hello"] * 63))

    def test_setall(self):
        self.lines(
            do_text, KEPT, ("setall u 1", DONE, {"u": ("text", "1", None)}), ("setall x ''", DONE, {"x": ("text", "", None)}),
            ("setall s 1 l 2 x 3 s 4", DONE, {"s": ("text", "4", None), "l": ("text", "2", None), "x": ("text", "3", None)}),
            ("setall u 12", DONE, {"u": ("text", "12", None)}))

    def test_kinds(self):
        self.asked_kinds(do_text, ("text",), ("get k", "k"), ("append k a", "k"), ("append k " + "a" * 200, "k"),
                         ("length k", "k"), ("part k 0 1", "k"), ("add k %d" % MOST, "k"), ("grab k", "k"), ("set k a was", "k"),
                         ("set k a new was", "k"), ("set k a", ""), ("set k a keep new", ""), ("getall k k", ""),
                         ("setall k a l b", ""))

    def test_as_many_keys_as_come(self):
        kept = {"k%d" % at: ("text", "", None) for at in range(200)}
        reply, after = do_text(("setall", "a", "1", "b", "2"), kept)
        self.assertEqual((reply, len(after)), (DONE, 202))

    def test_refused(self):
        self.refusing(do_text, WORDS, *["get k", "set k t until 5 was"])
        for line in (("set", "k", "t", "for", "5"), ("set", "k", "t", "was", "for", "5", "new")):
            self.refused(InvalidCommand, None, do_text, line, {})
            for value in not_stores():
                self.refused(InvalidStore, None, do_text, line, value)
        self.does(do_text, ("set", "for", "for"), {}, DONE, {"for": ("text", "for", None)})
