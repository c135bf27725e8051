"""Stage 12: maps."""

from deedline.plain import maps as module
from deedline.plain.maps import do_map
from tests.helpers import ENTRIES, LEAST, MOST
from tests.plain import NONE, PlainCase, error, number, text, texts

WORDS = ("hadd", "hcount", "hdel", "hfields", "hget", "hhas", "hmany", "hpairs", "hset", "htexts")


def a_map(line, until=None):
    return ("map", tuple(tuple(pair.split("=")) for pair in line.split(" ")), until)


KEPT = {"m": a_map("a=1 b=x c=", 70), "o": a_map("f=7"), "t": ENTRIES["text"], "s": ENTRIES["set"]}
FULL = {"m": ("map", tuple(("%03d" % at, "x") for at in range(200)), 70)}


class Maps(PlainCase):
    def test_constants(self):
        self.assertEqual(module.MAP_WORDS, WORDS)

    def test_hset(self):
        self.lines(
            do_map, KEPT, ("hset m a 1", number(0), {}), ("hset m a 2", number(0), {"m": a_map("a=2 b=x c=", 70)}),
            ("hset m bb y A z", number(2), {"m": a_map("A=z a=1 b=x bb=y c=", 70)}), ("hset n x 1 x 2 '' 3", number(2), {"n": a_map("=3 x=2")}),
            ("hset o f 8 f 9 e ''", number(1), {"o": a_map("e= f=9")}), ("hset m b x z 1 z ''", number(1), {"m": a_map("a=1 b=x c= z=", 70)}),
            ("hset t a 1", error("kind"), {}))
        self.lines(do_map, FULL, ("hset m x 1", error("size"), {}), ("hset m 000 1 x 1", error("size"), {}),
                   ("hset m 000 y 199 z", number(0), {"m": ("map", (("000", "y"), *FULL["m"][1][1:199], ("199", "z")), 70)}))
        pairs = [one for at in range(31) for one in ("k%02d" % at, "y")]
        for many, told in ((169, 200), (170, None)):
            kept = {"m": ("map", FULL["m"][1][:many], None)}
            after = {"m": ("map", (*FULL["m"][1][:many], *zip(pairs[::2], pairs[1::2])), None)} if told else kept
            self.does(do_map, ("hset", "m", *pairs), kept, number(31) if told else error("size"), after)

    def test_reading(self):
        self.lines(
            do_map, KEPT, ("hget m a", text("1"), {}), ("hget m c", text(""), {}), ("hget m x", NONE, {}), ("hget n a", NONE, {}),
            ("hget t a", error("kind"), {}), ("hmany m c x a a", texts("", None, "1", "1"), {}), ("hmany n a b", texts(None, None), {}),
            ("hmany t a", error("kind"), {}), ("hhas m a", number(1), {}), ("hhas m c", number(1), {}), ("hhas m ''", number(0), {}),
            ("hhas n a", number(0), {}), ("hhas s x", error("kind"), {}), ("hcount m", number(3), {}), ("hcount n", number(0), {}),
            ("hcount s", error("kind"), {}), ("hfields m", texts(*"abc"), {}), ("htexts m", texts("1", "x", ""), {}),
            ("hpairs m", texts("a", "1", "b", "x", "c", ""), {}), ("hfields n", texts(), {}), ("htexts n", texts(), {}), ("hpairs n", texts(), {}),
            ("hfields s", error("kind"), {}), ("htexts s", error("kind"), {}), ("hpairs s", error("kind"), {}))
        self.assertEqual(do_map(("hpairs", "m"), FULL)[0], texts(*[one for pair in FULL["m"][1] for one in pair]))

    def test_hdel(self):
        self.lines(
            do_map, KEPT, ("hdel m b", number(1), {"m": a_map("a=1 c=", 70)}), ("hdel m c x c a", number(2), {"m": a_map("b=x", 70)}),
            ("hdel m x 1", number(0), {}), ("hdel o f f", number(1), {"o": None}), ("hdel m a b c", number(3), {"m": None}),
            ("hdel n a", number(0), {}), ("hdel t a", error("kind"), {}))
        # A key and a word that are fields, too.
        kept = {"k": a_map("hdel=1 k=2 x=3")}
        self.lines(do_map, kept, ("hdel k x", number(1), {"k": a_map("hdel=1 k=2")}), ("hmany k x", texts("3"), {}))

    def test_hadd(self):
        self.lines(
            do_map, KEPT, ("hadd m a 5", number(6), {"m": a_map("a=6 b=x c=", 70)}), ("hadd m z -5", number(-5), {"m": a_map("a=1 b=x c= z=-5", 70)}),
            ("hadd m z 0", number(0), {"m": a_map("a=1 b=x c= z=0", 70)}), ("hadd n z 3", number(3), {"n": a_map("z=3")}),
            ("hadd o f -7", number(0), {"o": a_map("f=0")}), ("hadd o f 0", number(7), {}), ("hadd m b 1", error("number"), {}),
            ("hadd m c 1", error("number"), {}), ("hadd m b %d" % MOST, error("number"), {}), ("hadd m a %d" % MOST, error("range"), {}),
            ("hadd o f %d" % (MOST - 7), number(MOST), {"o": a_map("f=%d" % MOST)}), ("hadd o f %d" % (MOST - 6), error("range"), {}),
            ("hadd m z %d" % LEAST, number(LEAST), {"m": a_map("a=1 b=x c= z=%d" % LEAST, 70)}), ("hadd t a 1", error("kind"), {}))
        for told in ("", "007", "-0", "+1", " 1", str(MOST + 1), str(LEAST - 1)):
            kept = {"m": ("map", (("f", told),), 7)}
            self.does(do_map, ("hadd", "m", "f", "1"), kept, error("number"), kept)
        self.lines(do_map, FULL, ("hadd m x 1", error("size"), {}), ("hadd m 000 1", error("number"), {}))
        kept = {"m": ("map", (("f", str(LEAST)),), None)}
        self.lines(do_map, kept, ("hadd m f -1", error("range"), {}), ("hadd m f %d" % MOST, number(-1), {"m": a_map("f=-1")}))

    def test_kinds(self):
        self.asked_kinds(do_map, ("map",), *[(line, "k") for line in (
            "hset k a 1", "hget k f", "hmany k f g", "hdel k f", "hhas k f", "hcount k", "hfields k", "htexts k", "hpairs k", "hadd k f 1",
            "hadd k g 1", "hadd k f %d" % MOST)])

    def test_refused(self):
        self.refusing(do_map, WORDS, "hset k a 1", "hdel k a", "hadd k a -1")
