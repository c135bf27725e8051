"""Stage 11: lists."""

from deedline.plain import lists as module
from deedline.plain.lists import do_list
from tests.helpers import ENTRIES, LEAST, MOST
from tests.plain import DONE, NONE, PlainCase, error, number, text, texts

WORDS = ("at", "drop", "insert", "len", "move", "popl", "popr", "pushl", "pushlold", "pushr", "pushrold", "range", "setat", "trim")
KEPT = {"l": ("list", ("a", "b", "a", "c", "a"), None), "m": ("list", ("x",), 70), "t": ENTRIES["text"]}
FULL = {"f": ("list", tuple(str(at) for at in range(200)), 70), "l": ("list", ("a", "b"), None)}


def a_list(letters, until=None):
    return ("list", tuple(letters), until)


class Lists(PlainCase):
    def test_constants(self):
        self.assertEqual(module.LIST_WORDS, WORDS)

    def test_push(self):
        self.lines(
            do_list, KEPT, ("pushl l x y z", number(8), {"l": a_list("zyxabaca")}), ("pushr l x y", number(7), {"l": a_list("abacaxy")}),
            ("pushl n x y", number(2), {"n": a_list("yx")}), ("pushr n x y", number(2), {"n": a_list("xy")}),
            ("pushl m y", number(2), {"m": a_list("yx", 70)}), ("pushr m ''", number(2), {"m": ("list", ("x", ""), 70)}),
            ("pushlold n x", number(0), {}), ("pushrold n x y", number(0), {}), ("pushlold t x", error("kind"), {}),
            ("pushlold m y z", number(3), {"m": a_list("zyx", 70)}), ("pushrold m y z", number(3), {"m": a_list("xyz", 70)}),
            ("pushl t x", error("kind"), {}), ("pushr t x", error("kind"), {}))

    def test_pushing_too_many(self):
        for word in ("pushl", "pushr", "pushlold", "pushrold"):
            self.lines(do_list, FULL, (word + " f x", error("size"), {}), (word + " f" + " x" * 62, error("size"), {}))
            kept = {"f": ("list", ("a",) * 139, None)}
            self.does(do_list, (word, "f", *["a"] * 61), kept, number(200), {"f": ("list", ("a",) * 200, None)})
            self.does(do_list, (word, "f", *["a"] * 62), kept, error("size"), kept)

    def test_pop(self):
        self.lines(
            do_list, KEPT, ("popl l", text("a"), {"l": a_list("baca")}), ("popr l", text("a"), {"l": a_list("abac")}),
            ("popl m", text("x"), {"m": None}), ("popr m", text("x"), {"m": None}), ("popl n", NONE, {}), ("popr n", NONE, {}),
            ("popl n 2", NONE, {}), ("popr n 0", NONE, {}), ("popl l 0", texts(), {}), ("popr l 0", texts(), {}),
            ("popl l 2", texts("a", "b"), {"l": a_list("aca")}), ("popr l 2", texts("a", "c"), {"l": a_list("aba")}),
            ("popl l 5", texts(*"abaca"), {"l": None}), ("popr l 9", texts(*"acaba"), {"l": None}),
            ("popl l %d" % MOST, texts(*"abaca"), {"l": None}), ("popl m 1", texts("x"), {"m": None}),
            ("popl t", error("kind"), {}), ("popr t 0", error("kind"), {}))

    def test_len_and_at(self):
        self.lines(do_list, KEPT, ("len l", number(5), {}), ("len m", number(1), {}), ("len n", number(0), {}), ("len t", error("kind"), {}))
        for index, told in ((0, "a"), (1, "b"), (4, "a"), (5, None), (-1, "a"), (-2, "c"), (-5, "a"), (-6, None), (LEAST, None), (MOST, None)):
            self.lines(do_list, KEPT, ("at l %d" % index, text(told) if told else NONE, {}), ("at n %d" % index, NONE, {}))
        self.lines(do_list, KEPT, ("at t 0", error("kind"), {}))

    def test_setat(self):
        self.lines(
            do_list, KEPT, ("setat l 0 z", DONE, {"l": a_list("zbaca")}), ("setat l -2 z", DONE, {"l": a_list("abaza")}),
            ("setat l 4 z", DONE, {"l": a_list("abacz")}), ("setat l 0 a", DONE, {}), ("setat l 5 z", error("place"), {}),
            ("setat l -6 z", error("place"), {}), ("setat n 0 z", error("missing"), {}), ("setat n 9 z", error("missing"), {}),
            ("setat m -1 ''", DONE, {"m": ("list", ("",), 70)}), ("setat t 9 z", error("kind"), {}),
            ("setat l %d z" % LEAST, error("place"), {}), ("setat l %d z" % MOST, error("place"), {}))

    def test_range_and_trim(self):
        for first, last, told in ((0, -1, "abaca"), (1, 2, "ba"), (-2, -1, "ca"), (-9, 1, "ab"), (3, 99, "ca"), (5, 9, ""), (3, 2, ""),
                                  (0, -6, ""), (4, 4, "a"), (LEAST, MOST, "abaca"), (MOST, LEAST, "")):
            self.lines(do_list, KEPT, ("range l %d %d" % (first, last), texts(*told), {}),
                       ("trim l %d %d" % (first, last), DONE, {"l": a_list(told) if told else None}),
                       ("range n %d %d" % (first, last), texts(), {}), ("trim n %d %d" % (first, last), DONE, {}))
        self.lines(do_list, KEPT, ("trim m 0 0", DONE, {}), ("trim m 1 0", DONE, {"m": None}), ("range t 0 1", error("kind"), {}),
                   ("trim t 0 1", error("kind"), {}))

    def test_insert(self):
        self.lines(
            do_list, KEPT, ("insert l before a z", number(6), {"l": a_list("zabaca")}), ("insert l after a z", number(6), {"l": a_list("azbaca")}),
            ("insert l before c z", number(6), {"l": a_list("abazca")}), ("insert l after c z", number(6), {"l": a_list("abacza")}),
            ("insert m after x x", number(2), {"m": a_list("xx", 70)}), ("insert l before z a", number(-1), {}),
            ("insert n before a z", number(0), {}), ("insert t before a z", error("kind"), {}))
        self.lines(do_list, FULL, ("insert f before 5 x", error("size"), {}), ("insert f after x 5", number(-1), {}))

    def test_drop(self):
        for count, gone, told in ((1, 1, "baca"), (2, 2, "bca"), (3, 3, "bc"), (9, 3, "bc"), (0, 3, "bc"), (-1, 1, "abac"), (-2, 2, "abc"),
                                  (-3, 3, "bc"), (MOST, 3, "bc"), (LEAST, 3, "bc")):
            self.lines(do_list, KEPT, ("drop l %d a" % count, number(gone), {"l": a_list(told)}), ("drop l %d z" % count, number(0), {}),
                       ("drop n %d a" % count, number(0), {}), ("drop m %d x" % count, number(1), {"m": None}))
        self.lines(do_list, KEPT, ("drop l 0 ''", number(0), {}), ("drop t 0 a", error("kind"), {}))

    def test_move(self):
        self.lines(
            do_list, KEPT, ("move l m left left", text("a"), {"l": a_list("baca"), "m": a_list("ax", 70)}),
            ("move l m left right", text("a"), {"l": a_list("baca"), "m": a_list("xa", 70)}),
            ("move m l right left", text("x"), {"m": None, "l": a_list("xabaca")}),
            ("move m n left left", text("x"), {"m": None, "n": a_list("x")}),
            ("move n m left left", NONE, {}), ("move n o left left", NONE, {}), ("move n n left right", NONE, {}),
            ("move n t left left", error("kind"), {}), ("move t n left left", error("kind"), {}), ("move l t left left", error("kind"), {}))
        kept = {"l": a_list("abc", 70), "m": a_list("x", 70)}
        self.lines(
            do_list, kept, ("move l l left right", text("a"), {"l": a_list("bca", 70)}), ("move l l right left", text("c"), {"l": a_list("cab", 70)}),
            ("move l l left left", text("a"), {}), ("move l l right right", text("c"), {}), ("move m m left right", text("x"), {}),
            ("move m m right left", text("x"), {}))
        self.lines(do_list, FULL, ("move l f left left", error("size"), {}), ("move f l left left", text("0"), {
            "f": ("list", FULL["f"][1][1:], 70), "l": ("list", ("0", "a", "b"), None)}))
        self.lines(do_list, FULL, ("move f f left right", text("0"), {"f": ("list", (*FULL["f"][1][1:], "0"), 70)}))

    def test_kinds(self):
        self.asked_kinds(do_list, ("list",), *[(line, "k") for line in (
            "at k 0", "drop k 0 a", "insert k before x b", "len k", "popl k", "popr k 2", "pushl k a", "pushlold k a", "pushr k a",
            "pushrold k a", "range k 0 1", "setat k 9 a", "trim k 5 1")], ("move k l left left", "k l"), ("move k k right left", "k"))

    def test_refused(self):
        self.refusing(do_list, WORDS, "len k", "popl k 3", "move k l left right")
