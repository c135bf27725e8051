"""Stage 12: sets."""

from deedline.base.replies import is_reply
from deedline.plain import sets as module
from deedline.plain.sets import do_set
from tests.helpers import ENTRIES, MOST
from tests.plain import NONE, PlainCase, error, number, text, texts

WORDS = ("sadd", "scount", "sdiff", "sdiffto", "shas", "sinter", "sinterto", "smembers", "smove", "spop", "srem", "sunion", "sunionto")
ROW = tuple("%03d" % at for at in range(201))


def a_set(letters, until=None):
    return ("set", tuple(letters), until)


KEPT = {"s": a_set("abcd", 70), "r": a_set("bdx"), "o": a_set("q", 5), "t": ENTRIES["text"], "z": ENTRIES["sorted"]}


class Sets(PlainCase):
    def test_constants(self):
        self.assertEqual(module.SET_WORDS, WORDS)

    def test_sadd(self):
        self.lines(
            do_set, KEPT, ("sadd s a", number(0), {}), ("sadd s ab a", number(1), {"s": ("set", ("a", "ab", "b", "c", "d"), 70)}),
            ("sadd n x a x ''", number(3), {"n": ("set", ("", "a", "x"), None)}), ("sadd r A", number(1), {"r": a_set("Abdx")}),
            ("sadd o z z z", number(1), {"o": a_set("qz", 5)}), ("sadd t a", error("kind"), {}), ("sadd z x", error("kind"), {}))
        for many, more, told in ((199, 1, 200), (199, 2, None), (200, 1, None), (150, 50, 200), (150, 51, None)):
            kept = {"s": ("set", ROW[:many], 7)}
            command = ("sadd", "s", *ROW[many:many + more], *ROW[:5])
            after = {"s": ("set", ROW[:200], 7)} if told else kept
            self.does(do_set, command, kept, number(more) if told else error("size"), after)

    def test_srem(self):
        self.lines(
            do_set, KEPT, ("srem s b", number(1), {"s": a_set("acd", 70)}), ("srem s b x b d", number(2), {"s": a_set("ac", 70)}),
            ("srem s x ab ''", number(0), {}), ("srem o q q", number(1), {"o": None}), ("srem s d c b a", number(4), {"s": None}),
            ("srem n a", number(0), {}), ("srem t a", error("kind"), {}))
        # A key and a word that are members, too.
        kept = {"k": ("set", ("k", "srem", "x"), None)}
        self.lines(do_set, kept, ("srem k x", number(1), {"k": ("set", ("k", "srem"), None)}), ("sadd k x", number(0), {}), ("shas k x", texts(1), {}))

    def test_reading(self):
        self.lines(
            do_set, KEPT, ("shas s b x b ''", texts(1, 0, 1, 0), {}), ("shas n a b", texts(0, 0), {}), ("smembers s", texts(*"abcd"), {}),
            ("smembers n", texts(), {}), ("scount s", number(4), {}), ("scount n", number(0), {}), ("scount z", error("kind"), {}),
            ("smembers t", error("kind"), {}), ("shas t a", error("kind"), {}))
        self.assertEqual(do_set(("smembers", "s"), {"s": ("set", ROW[:200], None)})[0], texts(*ROW[:200]))

    def test_smove(self):
        self.lines(
            do_set, KEPT, ("smove s r a", number(1), {"s": a_set("bcd", 70), "r": a_set("abdx")}),
            ("smove s r b", number(1), {"s": a_set("acd", 70)}), ("smove s r x", number(0), {}), ("smove o s q", number(1), {
                "o": None, "s": a_set("abcdq", 70)}),
            ("smove o n q", number(1), {"o": None, "n": a_set("q")}), ("smove n s a", number(0), {}), ("smove n m a", number(0), {}),
            ("smove s s a", number(1), {}), ("smove s s x", number(0), {}), ("smove o o q", number(1), {}), ("smove n n a", number(0), {}),
            ("smove n t a", error("kind"), {}), ("smove t n a", error("kind"), {}), ("smove s t x", error("kind"), {}), ("smove t t a", error("kind"), {}))
        full = {"f": ("set", ROW[:200], 7), "s": a_set("a"), "r": ("set", ("000",), None)}
        self.lines(do_set, full, ("smove s f a", error("size"), {}), ("smove s f b", number(0), {}), ("smove r f 000", number(1), {"r": None}),
                   ("smove f f 000", number(1), {}))

    def test_spop(self):
        self.lines(
            do_set, KEPT, ("spop s", text("a"), {"s": a_set("bcd", 70)}), ("spop o", text("q"), {"o": None}), ("spop n", NONE, {}),
            ("spop s 2", texts("a", "b"), {"s": a_set("cd", 70)}), ("spop s 0", texts(), {}), ("spop n 0", texts(), {}),
            ("spop n 3", texts(), {}), ("spop s 4", texts(*"abcd"), {"s": None}), ("spop s %d" % MOST, texts(*"abcd"), {"s": None}),
            ("spop t", error("kind"), {}), ("spop t 0", error("kind"), {}))

    def test_together(self):
        self.lines(
            do_set, KEPT, ("sinter s r", texts("b", "d"), {}), ("sinter s", texts(*"abcd"), {}), ("sinter s s", texts(*"abcd"), {}),
            ("sinter s n", texts(), {}), ("sinter n", texts(), {}), ("sinter s r o", texts(), {}), ("sunion s r", texts(*"abcdx"), {}),
            ("sunion o r", texts(*"bdqx"), {}), ("sunion n", texts(), {}), ("sunion n r n", texts(*"bdx"), {}), ("sdiff s r", texts("a", "c"), {}),
            ("sdiff r s", texts("x"), {}), ("sdiff s s", texts(), {}), ("sdiff s", texts(*"abcd"), {}), ("sdiff n s", texts(), {}),
            ("sdiff s n o r", texts("a", "c"), {}), ("sinter n t", error("kind"), {}), ("sunion s z", error("kind"), {}),
            ("sdiff t t", error("kind"), {}))
        one, other = ("set", ROW[:150], None), ("set", ROW[100:200], None)
        kept = {"a": one, "b": other, "c": ("set", ROW[200:], None)}
        self.lines(do_set, kept, ("sunion a b", texts(*ROW[:200]), {}), ("sunion a b c", texts(*ROW), {}), ("sinter a b", texts(*ROW[100:150]), {}))

    def test_what_is_told_is_no_value(self):
        # A list of a reply has up to 1,000 members; a value has up to 200.
        kept = {"k%d" % at: ("set", tuple("%d.%03d" % (at, number) for number in range(200)), 9) for at in range(5)}
        kept["one"] = a_set("x")
        members = [text for key in sorted(kept) for text in kept[key][1]]
        self.lines(do_set, kept, ("sunion k0 one", texts(*members[:200], "x"), {}), ("sunion k1 k0", texts(*members[:400]), {}),
                   ("sunion k0 k1 k2 k3 k4", texts(*members[:1000]), {}), ("sunion k4 k0 k1 k2 k3 k0", texts(*members[:1000]), {}),
                   ("sunion k0 k1 k2 k3 k4 one", error("size"), {}), ("sinter k0 one", texts(), {}), ("sdiff k0 one k1", texts(*members[:200]), {}),
                   ("sunionto n k0 one", error("size"), {}), ("sunionto k0 k0 k1", error("size"), {}), ("smove one k0 x", error("size"), {}))
        self.assertIs(is_reply(do_set(("sunion", "k0", "k1", "k2", "k3", "k4"), kept)[0]), True)

    def test_together_to_a_key(self):
        self.lines(
            do_set, KEPT, ("sinterto n s r", number(2), {"n": a_set("bd")}), ("sinterto s s r", number(2), {"s": a_set("bd")}),
            ("sinterto r s r s", number(2), {"r": a_set("bd")}), ("sinterto o s n", number(0), {"o": None}), ("sinterto n s n", number(0), {}),
            ("sinterto t s", number(4), {"t": a_set("abcd")}), ("sinterto z r n", number(0), {"z": None}), ("sinterto s s", number(4), {"s": a_set("abcd")}),
            ("sunionto n s r", number(5), {"n": a_set("abcdx")}), ("sunionto s r o", number(4), {"s": a_set("bdqx")}),
            ("sunionto s n", number(0), {"s": None}), ("sunionto r r r", number(3), {}), ("sunionto z o s", number(5), {"z": a_set("abcdq")}),
            ("sdiffto s s r", number(2), {"s": a_set("ac")}), ("sdiffto s r s", number(1), {"s": a_set("x")}), ("sdiffto n s s", number(0), {}),
            ("sdiffto t r", number(3), {"t": a_set("bdx")}), ("sdiffto s n s", number(0), {"s": None}),
            ("sinterto n s t", error("kind"), {}), ("sunionto t t", error("kind"), {}), ("sunionto s z s", error("kind"), {}),
            ("sdiffto n n t", error("kind"), {}))
        kept = {"a": ("set", ROW[:150], 7), "b": ("set", ROW[100:200], 7), "c": ("set", ROW[200:], 7)}
        self.lines(do_set, kept, ("sunionto a a b", number(200), {"a": ("set", ROW[:200], None)}), ("sunionto c a b", number(200), {"c": ("set", ROW[:200], None)}),
                   ("sunionto a a b c", error("size"), {}), ("sunionto n a b c", error("size"), {}))

    def test_kinds(self):
        self.asked_kinds(do_set, ("set",), *[(line, "k") for line in (
            "sadd k a", "srem k a", "shas k a", "smembers k", "scount k", "spop k", "spop k 2", "smove k k a", "sinter k")],
            ("smove k l x", "k l"), ("smove k l q", "k l"), ("sinter k l m", "k l m"), ("sunion k l m", "k l m"), ("sdiff k l m", "k l m"),
            ("sinterto o k l", "k l"), ("sunionto o k l", "k l"), ("sdiffto o k l", "k l"), ("sinterto k k", "k"), ("sunionto k l k", "k l"))

    def test_refused(self):
        self.refusing(do_set, WORDS, "sadd k a", "sunionto a b c", "spop k 0")
