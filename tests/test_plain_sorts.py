"""Stage 13: sorted sets."""

import itertools

from deedline.plain import sorts as module
from deedline.plain.sorts import do_sorted
from tests.helpers import ENTRIES, LEAST, MOST
from tests.model_times import Timed, told_pairs
from tests.plain import NONE, PlainCase, error, number, texts

WORDS = ("zadd", "zbetween", "zdrop", "zinterto", "zpop", "zraise", "zrange", "zrank", "zrem", "zscore", "zsize", "zunionto")


def scored(line, until=None):
    """An entry with pairs like `a=1`, in their order."""
    pairs = tuple(pair.split("=") for pair in line.split(" "))
    return ("sorted", tuple((int(score), member) for member, score in pairs), until)


KEPT = {"z": scored("a=1 c=1 b=2 d=5", 70), "y": scored("x=-3 b=0 a=4"), "o": scored("q=7", 5), "s": ("set", ("a", "b", "q"), None),
        "t": ENTRIES["text"]}
FULL = {"f": ("sorted", tuple((at, "%03d" % at) for at in range(200)), 70), "z": scored("a=1"), "s": ("set", ("a",), None)}


class Sorted(PlainCase):
    def test_constants(self):
        self.assertEqual(module.SORTED_WORDS, WORDS)

    def test_zadd(self):
        self.lines(
            do_sorted, KEPT, ("zadd z 1 a", number(0), {}), ("zadd z 3 a", number(0), {"z": scored("c=1 b=2 a=3 d=5", 70)}),
            ("zadd z 3 x 0 a 3 x", number(1), {"z": scored("a=0 c=1 b=2 x=3 d=5", 70)}), ("zadd n 2 b 2 a", number(2), {"n": scored("a=2 b=2")}),
            ("zadd n 1 x 2 x", number(1), {"n": scored("x=2")}), ("zadd o 8 q 6 p", number(1), {"o": scored("p=6 q=8", 5)}),
            ("zadd n 1 new", number(1), {"n": scored("new=1")}), ("zadd t 1 a", error("kind"), {}), ("zadd s 1 a", error("kind"), {}))

    def test_options_of_zadd(self):
        more = "a=1 c=1 b=2 d=5 z=9"
        for options, reply, told in (
            ("new", 1, more), ("old", 0, "c=1 b=2 a=3 d=4"), ("up", 1, "c=1 b=2 a=3 d=5 z=9"), ("down", 1, "a=1 c=1 b=2 d=4 z=9"),
            ("changed", 3, "c=1 b=2 a=3 d=4 z=9"), ("new changed", 1, more), ("old changed", 2, "c=1 b=2 a=3 d=4"),
            ("up changed", 2, "c=1 b=2 a=3 d=5 z=9"), ("down changed", 2, "a=1 c=1 b=2 d=4 z=9"), ("old up", 0, "c=1 b=2 a=3 d=5"),
            ("old down", 0, "a=1 c=1 b=2 d=4"), ("old up changed", 1, "c=1 b=2 a=3 d=5"), ("old down changed", 1, "a=1 c=1 b=2 d=4"),
        ):
            for order in itertools.permutations(options.split(" ")):
                line = "zadd z %s 3 a 4 d 9 z 1 c" % " ".join(order)
                self.lines(do_sorted, KEPT, (line, number(reply), {"z": scored(told, 70)}))
        self.lines(do_sorted, KEPT, ("zadd n old 1 a", number(0), {}), ("zadd n old changed 1 a", number(0), {}),
                   ("zadd n up 1 a 0 a 2 a", number(1), {"n": scored("a=2")}), ("zadd n changed 1 a 0 a 0 a", number(2), {"n": scored("a=0")}),
                   ("zadd n new 1 a 2 a", number(1), {"n": scored("a=1")}), ("zadd z down 1 a 5 d", number(0), {}),
                   ("zadd z up changed 1 a 5 d", number(0), {}))

    def test_too_many(self):
        self.lines(do_sorted, FULL, ("zadd f 1 x", error("size"), {}), ("zadd f 9 000 1 x", error("size"), {}), ("zadd f old 1 x", number(0), {}),
                   ("zadd f new 1 000", number(0), {}), ("zraise f 1 x", error("size"), {}), ("zunionto n 2 f z", error("size"), {}),
                   ("zunionto f 2 f s", error("size"), {}), ("zinterto n 2 f z", number(0), {}))
        self.lines(do_sorted, FULL, ("zunionto n 2 f z weights 1 %d" % MOST, error("size"), {}),
                   ("zunionto n 2 f z weights %d 1" % MOST, error("range"), {}))

    def test_zraise(self):
        self.lines(
            do_sorted, KEPT, ("zraise z 3 a", number(4), {"z": scored("c=1 b=2 a=4 d=5", 70)}), ("zraise z 0 a", number(1), {}),
            ("zraise z -6 d", number(-1), {"z": scored("d=-1 a=1 c=1 b=2", 70)}), ("zraise z 0 e", number(0), {"z": scored("e=0 a=1 c=1 b=2 d=5", 70)}),
            ("zraise n -7 a", number(-7), {"n": scored("a=-7")}), ("zraise o %d q" % (MOST - 7), number(MOST), {"o": scored("q=%d" % MOST, 5)}),
            ("zraise o %d q" % (MOST - 6), error("range"), {}), ("zraise y %d x" % LEAST, error("range"), {}),
            ("zraise y %d x" % (LEAST + 3), number(LEAST), {"y": scored("x=%d b=0 a=4" % LEAST)}), ("zraise n %d a" % LEAST, number(LEAST), {
                "n": scored("a=%d" % LEAST)}), ("zraise s 1 a", error("kind"), {}))
        kept = {"f": ("sorted", FULL["f"][1][:199] + ((MOST, "x"),), None)}
        self.lines(do_sorted, kept, ("zraise f 1 x", error("range"), {}), ("zraise f %d y" % MOST, error("size"), {}))

    def test_zrem_and_zscore_and_zsize(self):
        self.lines(
            do_sorted, KEPT, ("zrem z a", number(1), {"z": scored("c=1 b=2 d=5", 70)}), ("zrem z d x d a", number(2), {"z": scored("c=1 b=2", 70)}),
            ("zrem o q q", number(1), {"o": None}), ("zrem z x ''", number(0), {}), ("zrem n a", number(0), {}), ("zrem t a", error("kind"), {}),
            ("zscore z b x b a", texts(2, None, 2, 1), {}), ("zscore n a", texts(None), {}), ("zscore s a", error("kind"), {}),
            ("zsize z", number(4), {}), ("zsize n", number(0), {}), ("zsize t", error("kind"), {}))
        # A key and a word that are members, too.
        kept = {"k": scored("k=1 x=1 zrem=1")}
        self.lines(do_sorted, kept, ("zrem k x", number(1), {"k": scored("k=1 zrem=1")}), ("zscore k x", texts(1), {}))

    def test_zrank(self):
        for member, place, back in (("a", 0, 3), ("c", 1, 2), ("b", 2, 1), ("d", 3, 0)):
            self.lines(do_sorted, KEPT, ("zrank z " + member, number(place), {}), ("zrank z %s back" % member, number(back), {}))
        self.lines(do_sorted, KEPT, ("zrank z x", NONE, {}), ("zrank z x back", NONE, {}), ("zrank n a", NONE, {}), ("zrank s a", error("kind"), {}))

    def test_zbetween(self):
        for low, high, told in (("-", "+", 4), ("+", "-", 0), ("-", "-", 0), ("+", "+", 0), ("1", "2", 3), ("(1", "2", 1), ("1", "(2", 2),
                                ("(1", "(2", 0), ("2", "1", 0), ("5", "+", 1), ("(5", "+", 0), ("-", "(1", 0), ("-", "1", 2), ("3", "4", 0),
                                ("5", "5", 1), ("(5", "(5", 0), (str(LEAST), str(MOST), 4), ("(" + str(MOST), "+", 0), ("+", "9", 0), ("1", "-", 0)):
            self.lines(do_sorted, KEPT, ("zbetween z %s %s" % (low, high), number(told), {}), ("zbetween n %s %s" % (low, high), number(0), {}))
        edges = {"e": ("sorted", ((LEAST, "a"), (MOST, "b")), None)}
        self.lines(do_sorted, edges, ("zbetween e %d %d" % (LEAST, MOST), number(2), {}), ("zbetween e (%d +" % LEAST, number(1), {}),
                   ("zbetween e - (%d" % MOST, number(1), {}), ("zbetween t - +", number(0), {}))
        self.lines(do_sorted, KEPT, ("zbetween t - +", error("kind"), {}))

    def test_zrange_by_places(self):
        for first, last, told, back in ((0, -1, "acbd", "dbca"), (1, 2, "cb", "bc"), (-1, -1, "d", "a"), (3, 9, "d", "a"), (4, 9, "", ""),
                                        (2, 1, "", ""), (-9, 0, "a", "d"), (LEAST, MOST, "acbd", "dbca"), (0, -5, "", "")):
            line = "zrange z %d %d" % (first, last)
            self.lines(do_sorted, KEPT, (line, texts(*told), {}), (line + " back", texts(*back), {}))
            scores = {"a": 1, "c": 1, "b": 2, "d": 5}
            for row, options in ((told, "scores"), (back, "scores back"), (back, "back scores")):
                self.lines(do_sorted, KEPT, (line + " " + options, texts(*[one for member in row for one in (member, scores[member])]), {}))
            self.lines(do_sorted, KEPT, ("zrange n %d %d back" % (first, last), texts(), {}))
        self.lines(do_sorted, KEPT, ("zrange s 0 1", error("kind"), {}))

    def test_zrange_by_scores_and_texts(self):
        self.lines(
            do_sorted, KEPT, ("zrange z 1 2 byscore", texts("a", "c", "b"), {}), ("zrange z (1 + byscore back scores", texts("d", 5, "b", 2), {}),
            ("zrange z 2 1 byscore back", texts(), {}), ("zrange z - + byscore skip 1 most 2", texts("c", "b"), {}),
            ("zrange z - + skip 1 most 2 byscore back", texts("b", "c"), {}), ("zrange z - + byscore skip 4 most 2", texts(), {}),
            ("zrange z - + byscore skip 0 most 0", texts(), {}), ("zrange z - + byscore skip 3 most %d" % MOST, texts("d"), {}),
            ("zrange z - + byscore skip %d most 1" % MOST, texts(), {}), ("zrange z [b + bytext", texts("c", "b", "d"), {}),
            ("zrange z (b [c bytext", texts("c"), {}), ("zrange z - (b bytext", texts("a"), {}), ("zrange z [ ( bytext", texts(), {}),
            ("zrange z [ + bytext scores", texts("a", 1, "c", 1, "b", 2, "d", 5), {}), ("zrange z [c [b bytext", texts(), {}),
            ("zrange z - + bytext back skip 1 most 1 scores", texts("b", 2), {}), ("zrange n - + bytext", texts(), {}))
        pairs = ((1, ""), (1, "("), (1, "["), (2, "+"), (2, "-"))
        kept = {"z": ("sorted", pairs, None)}
        self.lines(do_sorted, kept, ("zrange z - + bytext", texts("", "(", "[", "+", "-"), {}), ("zrange z [[ + bytext", texts("["), {}),
                   ("zrange z [( (( bytext", texts(), {}), ("zrange z [+ [- bytext", texts("+", "-"), {}), ("zrange z ( [( bytext", texts("("), {}))

    def test_what_zdrop_takes_beside_what_zrange_tells(self):
        scores = {member: score for score, member in KEPT["z"][1]}
        places, by_score = ("-9", "-2", "0", "1", "3", "9"), ("-", "+", "0", "1", "(1", "2", "(2", "5", "(5", "9")
        by_text = ("-", "+", "[", "[a", "(a", "[b", "(c", "[d", "(d", "[z")
        for bounds, option in ((places, ()), (by_score, ("byscore",)), (by_text, ("bytext",))):
            for low, high in itertools.product(bounds, bounds):
                told = told_pairs(scores, low, high, option)
                members = [member for member, _ in told]
                self.does(do_sorted, ("zrange", "z", low, high, *option), KEPT, texts(*members), KEPT)
                rest = tuple(pair for pair in KEPT["z"][1] if pair[1] not in members)
                after = {**KEPT, "z": ("sorted", rest, 70)}
                if not rest:
                    del after["z"]
                self.does(do_sorted, ("zdrop", "z", low, high, *option), KEPT, number(len(members)), after)
                back = told_pairs(scores, low, high, (*option, "back"))
                self.does(do_sorted, ("zrange", "z", low, high, "back", *option), KEPT, texts(*[one for one, _ in back]), KEPT)
                for skip, most in itertools.product((0, 1, 3), (0, 1, 2)) if option else ():
                    more = (*option, "skip", str(skip), "most", str(most))
                    told = [member for member, _ in told_pairs(scores, low, high, more)]
                    self.assertEqual(told, members[skip:skip + most])
                    self.does(do_sorted, ("zrange", "z", low, high, *more), KEPT, texts(*told), KEPT)
        self.lines(do_sorted, KEPT, ("zdrop n 0 -1", number(0), {}), ("zdrop s 0 1", error("kind"), {}))

    def test_zpop(self):
        self.lines(
            do_sorted, KEPT, ("zpop z least", texts("a", 1), {"z": scored("c=1 b=2 d=5", 70)}), ("zpop z greatest", texts("d", 5), {
                "z": scored("a=1 c=1 b=2", 70)}), ("zpop z least 2", texts("a", 1, "c", 1), {"z": scored("b=2 d=5", 70)}),
            ("zpop z greatest 3", texts("d", 5, "b", 2, "c", 1), {"z": scored("a=1", 70)}), ("zpop z least 0", texts(), {}),
            ("zpop o least", texts("q", 7), {"o": None}), ("zpop o greatest %d" % MOST, texts("q", 7), {"o": None}), ("zpop n least", texts(), {}),
            ("zpop n greatest 5", texts(), {}), ("zpop s least", error("kind"), {}))
        reply = do_sorted(("zpop", "f", "least", "200"), FULL)[0]
        self.assertEqual(len(reply[1]), 400)

    def test_joined(self):
        self.lines(
            do_sorted, KEPT, ("zunionto n 2 z y", number(5), {"n": scored("x=-3 c=1 b=2 a=5 d=5")}),
            ("zinterto n 2 z y", number(2), {"n": scored("b=2 a=5")}), ("zinterto n 2 z y least", number(2), {"n": scored("b=0 a=1")}),
            ("zinterto n 2 z y greatest", number(2), {"n": scored("b=2 a=4")}), ("zinterto n 2 z y sum", number(2), {"n": scored("b=2 a=5")}),
            ("zunionto n 2 z s", number(5), {"n": scored("c=1 q=1 a=2 b=3 d=5")}), ("zunionto n 1 s", number(3), {"n": scored("a=1 b=1 q=1")}),
            ("zinterto n 2 y s weights 2 -3", number(2), {"n": scored("b=-3 a=5")}),
            ("zunionto n 2 y s greatest weights 2 -3", number(4), {"n": scored("x=-6 q=-3 b=0 a=8")}),
            ("zunionto n 2 y s weights 0 0 least", number(4), {"n": scored("a=0 b=0 q=0 x=0")}),
            ("zunionto n 2 o o", number(1), {"n": scored("q=14")}), ("zinterto n 2 o o weights 2 3", number(1), {"n": scored("q=35")}),
            ("zinterto n 3 o o s", number(1), {"n": scored("q=15")}), ("zunionto n 3 o s o least weights 1 9 2", number(3), {
                "n": scored("q=7 a=9 b=9")}))

    def test_where_the_result_goes(self):
        self.lines(
            do_sorted, KEPT, ("zunionto z 1 z", number(4), {"z": scored("a=1 c=1 b=2 d=5")}), ("zinterto z 2 s z", number(2), {"z": scored("a=2 b=3")}),
            ("zunionto s 1 s", number(3), {"s": scored("a=1 b=1 q=1")}), ("zinterto z 2 z o", number(0), {"z": None}), ("zunionto t 1 o", number(1), {
                "t": scored("q=7")}), ("zinterto t 2 o n", number(0), {"t": None}), ("zunionto n 1 n", number(0), {}), ("zunionto y 1 y", number(3), {}),
            ("zunionto n 2 o t", error("kind"), {}), ("zunionto t 1 t", error("kind"), {}), ("zinterto n 2 n t", error("kind"), {}))

    def test_scores_at_the_edge(self):
        for first, second, options, told in (
            (MOST, 0, "", MOST), (MOST, 1, "", None), (MOST, -1, "", MOST - 1), (LEAST, -1, "", None), (LEAST, MOST, "", -1), (LEAST, 0, "", LEAST),
            (MOST, MOST, " least", MOST), (MOST, 1, " greatest", MOST), (MOST, MOST, " sum weights 1 -1", 0), (MOST, 5, " weights 2 0", None),
            (2 ** 62, 0, " weights 2 0", None), (2 ** 62, -1, " weights 2 1", MOST), (-(2 ** 62), 0, " weights 2 0", LEAST),
            (LEAST, 0, " weights -1 0", None), (LEAST, -1, " weights -1 1", MOST), (MOST, 3, " least weights %d 1" % MOST, 3),
            (MOST, 3, " greatest weights %d 1" % MOST, None),
        ):
            kept = {"a": ("sorted", ((first, "m"),), None), "b": ("sorted", ((second, "m"),), None), "c": scored("x=1", 9)}
            for word in ("zunionto", "zinterto"):
                reply, changes = (error("range"), {}) if told is None else (number(1), {"c": ("sorted", ((told, "m"),), None)})
                self.lines(do_sorted, kept, (word + " c 2 a b" + options, reply, changes))
        # What is in no result decides nothing.
        kept = {"a": ("sorted", ((1, "x"), (MOST, "m")), None), "b": scored("x=1")}
        self.lines(do_sorted, kept, ("zinterto c 2 a b weights 2 2", number(1), {"c": scored("x=4")}),
                   ("zunionto c 2 a b weights 2 2", error("range"), {}))

    def test_as_the_model_does(self):
        for line in ("zunionto n 3 z y s", "zinterto n 3 z y s weights 1 2 3 least", "zunionto z 2 z z greatest weights -1 1"):
            command = tuple(line.split(" "))
            model = Timed(KEPT)
            reply = model.reply(command)
            self.does(do_sorted, command, KEPT, reply, model.plain())

    def test_kinds(self):
        self.asked_kinds(do_sorted, ("sorted",), *[(line, "k") for line in (
            "zadd k 1 a", "zadd k old 1 a", "zraise k 1 a", "zraise k %d x" % MOST, "zrem k a", "zscore k a", "zsize k", "zbetween k - +", "zrank k a",
            "zrange k 0 1", "zrange k - + bytext", "zdrop k 0 -1", "zpop k least", "zpop k greatest 0")])
        self.asked_kinds(do_sorted, ("set", "sorted"), ("zunionto n 1 k", "k"), ("zinterto n 2 k l", "k l"), ("zunionto k 1 k", "k"),
                         ("zinterto n 3 k l k weights %d 1 1" % MOST, "k l"))

    def test_refused(self):
        self.refusing(do_sorted, WORDS, "zadd k 1 a", "zunionto a 1 c", "zrange k 0 1 scores")
