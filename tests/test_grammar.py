"""Stage 10: words of commands."""

from deedline.errors import InvalidCommand
from deedline.plain import grammar
from deedline.plain.grammar import does_write, first_error, keys_of, options_of
from tests import rows
from tests.helpers import LEAST, MOST, Case, chance, not_commands

TOO_LONG = "k" * 41
# Texts that stand at each slot, and texts that cannot, with their errors.
GOOD = {
    "K": ["a", "k" * 40, " ", "new"], "T": ["", "x" * 200, "old", "7"], "N": ["0", str(LEAST), str(MOST), "-1"],
    "C": ["0", str(MOST)], "A": ["0", "1000000000000000"], "Z": ["1", "1000000000000000"], "O": ["0", "65535"],
    "R": ["1", "1000"], "W": list(rows.KINDS), "B": ["-", "+", "0", "(-7", "(" + str(MOST), str(LEAST)],
}
NO_NUMBERS = ["", "x", "007", "+1", "-0", "1.0", " 1", str(MOST + 1), str(LEAST - 1), "-", "("]
BAD = {
    "K": [("", "syntax"), (TOO_LONG, "size"), ("k" * 200, "size")],
    "C": [("-1", "range"), (str(LEAST), "range")], "A": [("-1", "range"), ("1000000000000001", "range")],
    "Z": [("0", "range"), ("-1", "range"), ("1000000000000001", "range")],
    "O": [("-1", "range"), ("65536", "range"), (str(MOST), "range")], "R": [("0", "range"), ("1001", "range")],
    "W": [("", "syntax"), ("texts", "syntax"), ("Set", "syntax")],
    "B": [("", "number"), ("x", "number"), ("((1", "number"), ("(", "number"), ("[1", "number"), ("--1", "number"),
          ("(+", "number"), ("1(", "number"), (str(MOST + 1), "number"), ("(007", "number")],
    "N": [], "H": [("0", "range"), ("61", "range"), ("-1", "range")],
}
for slot in "NCAZORH":
    BAD[slot] = BAD[slot] + [(text, "number") for text in NO_NUMBERS]


def filled(row, pick, keys):
    """The texts of a row, with bounds where they must stand."""
    return [str(keys) if slot == "H" else pick.choice(GOOD[slot]) if slot in GOOD else slot for slot in row]


def ranged(word, texts, pick):
    """The texts, with bounds of a range as the options want them."""
    if word in ("zrange", "zdrop"):
        options = texts[3:]
        bounds = GOOD["B"] if "byscore" in options else GOOD["N"]
        if "bytext" in options:
            bounds = ["-", "+", "[", "(", "[a", "(" + "z" * 199]
        texts[1:3] = [pick.choice(bounds), pick.choice(bounds)]
    return texts


def commands(word, pick, many=3):
    """Right commands of a word, one for each of its rows, with the rows."""
    for keys in (1, 2, 3) if word in ("zunionto", "zinterto") else (1,):
        for row in rows.rows(word, many, keys):
            yield (word, *ranged(word, filled(row, pick, keys), pick)), row


def told_options(row, texts):
    """The options of a row, with what they take."""
    options, at = {}, 0
    while at < len(row):
        slot = row[at]
        if slot.islower() and slot not in ("before", "after", "left", "right"):
            taken = [other for other in row[at + 1:at + 2] if not other.islower()]
            options[slot] = True
            if slot == "weights":
                many = row.count("N")
                options[slot] = tuple(int(text) for text in texts[at + 1:at + 1 + many])
                at += many
            elif taken and slot not in ("changed", "new", "old", "up", "down"):
                text = texts[at + 1]
                options[slot] = text if taken[0] in "TW" else int(text)
                at += 1
        at += 1
    return options


class Words(Case):
    def test_the_words(self):
        self.assertEqual(grammar.WORDS, tuple(sorted(rows.ROWS)))
        self.assertEqual(len(set(grammar.WORDS)), 72)
        self.assertEqual(set(rows.COUNTS), set(rows.TABLE.values()))

    def test_which_words_write(self):
        for word in grammar.WORDS:
            for texts in ((), ("a",), ("",) * 63):
                self.assertIs(does_write((word, *texts)), word in rows.WRITING)
        for word in ("", "Set", "set ", "set!", "gone", "out", "begin", "do", "watch", "ping", "waitl"):
            self.assertIs(does_write((word, "a", "b")), False)
            for command in ((word,), (word, "a"), (word,) * 64):
                self.assertEqual((first_error(command), keys_of(command)), ("unknown", ()))
                self.refused(InvalidCommand, None, options_of, command)

    def test_no_commands(self):
        for value in not_commands():
            for call in (does_write, first_error, keys_of, options_of):
                self.refused(InvalidCommand, None, call, value)


class RightOnes(Case):
    def test_every_row_of_every_word(self):
        pick = chance(101)
        for word in grammar.WORDS:
            for command, row in commands(word, pick):
                self.assertIsNone(first_error(command), command)
                texts = command[1:]
                self.assertEqual(keys_of(command), tuple(text for text, slot in zip(texts, row) if slot == "K"))
                if word == "zpop":
                    self.assertEqual(options_of(command), {})
                    continue
                options = told_options(row, texts)
                self.assertEqual(options_of(command), options, command)
                self.assertEqual(list(options_of(command)), sorted(options))
                self.assertTrue(all(type(options_of(command)[one]) is type(options[one]) for one in options))

    def test_the_longest_rows(self):
        for word, told in rows.ROWS.items():
            if told not in ("K H", "K [new|old] [up|down] [changed] (N T)") and "(" in told:
                first, _, repeated = rows.parts(told)
                times = (63 - len(first)) // len(repeated)
                command = (word, *["a"] * len(first), *["a"] * len(repeated) * times)
                self.assertEqual(len(command), rows.COUNTS[told][1])
                self.assertIsNone(first_error(command))
                self.assertEqual(len(keys_of(command)), {"(K)": 63, "(K T)": 31, "K (K)": 63}.get(told, 1))
        pairs = ("1", "m") * 31
        self.assertIsNone(first_error(("zadd", "a", *pairs)))
        self.assertEqual(first_error(("zadd", "a", "new", *pairs[:-1])), "syntax")
        self.assertIsNone(first_error(("zadd", "a", "new", "changed", *pairs[2:])))
        self.assertEqual(len(keys_of(("zunionto", "a", "60", *["b"] * 60))), 61)
        self.assertIsNone(first_error(("zinterto", "a", "60", *["b"] * 60, "sum")))
        self.assertEqual(first_error(("zinterto", "a", "60", *["b"] * 60, "weights")), "syntax")
        self.assertEqual(first_error(("zunionto", "a", "30", *["b"] * 30, "weights", *["0"] * 29)), "syntax")
        self.assertEqual(options_of(("zunionto", "a", "30", *["b"] * 30, "weights", *["0"] * 30)), {"weights": (0,) * 30})

    def test_keys_as_they_stand(self):
        for command, keys in (
            (("smove", "b", "a", "c"), ("b", "a")), (("del", "b", "a", "b"), ("b", "a", "b")), (("size",), ()),
            (("setall", "b", "1", "a", "2", "b", "3"), ("b", "a", "b")), (("keys", "a"), ()), (("scan", "0"), ()),
            (("zunionto", "z", "2", "b", "b", "sum"), ("z", "b", "b")), (("move", "b", "b", "left", "right"), ("b", "b")),
            (("sdiffto", "a", "b", "a"), ("a", "b", "a")), (("get",), ()), (("get", ""), ()), (("nope", "a"), ()),
            (("del", "a", ""), ()), (("zadd", "a", "x", "m"), ()), (("insert", "a", "before", "b", "c"), ("a",)),
            (("hset", "m", "a", "b"), ("m",)), (("zunionto", "z", "2", "b"), ()), (("clear",), ()),
        ):
            self.assertEqual(keys_of(command), keys)

    def test_options_with_what_they_take(self):
        for command, options in (
            (("set", "for", "for", "was", "for", "7", "new"), {"for": 7, "new": True, "was": True}),
            (("set", "k", "keep"), {}), (("set", "k", "t", "until", "0"), {"until": 0}), (("set", "k", "t", "keep"), {"keep": True}),
            (("zrange", "k", "-", "+", "skip", "0", "most", "5", "bytext", "back", "scores"),
             {"back": True, "bytext": True, "most": 5, "scores": True, "skip": 0}),
            (("scan", "0", "kind", "set", "count", "7", "match", "kind"), {"count": 7, "kind": "set", "match": "kind"}),
            (("zunionto", "z", "2", "weights", "sum", "weights", "-3", "0", "greatest"), {"greatest": True, "weights": (-3, 0)}),
            (("zadd", "k", "changed", "down", "old", "1", "new"), {"changed": True, "down": True, "old": True}),
            (("zpop", "k", "least", "3"), {}), (("move", "a", "b", "left", "right"), {}), (("insert", "a", "after", "b", "c"), {}),
            (("get", "new"), {}), (("expire", "k", "-5", "later"), {"later": True}), (("copy", "over", "k", "over"), {"over": True}),
        ):
            self.assertEqual(options_of(command), options)
            self.assertEqual(list(options_of(command)), sorted(options))


class WrongOnes(Case):
    def wrong(self, code, command):
        self.assertEqual((first_error(command), keys_of(command)), (code, ()), command)
        self.assertEqual(rows.first_error(command), code, command)
        self.refused(InvalidCommand, None, options_of, command)

    def test_too_few_and_too_many(self):
        for word, told in rows.ROWS.items():
            least, most = rows.COUNTS[told]
            for many in range(1, 65):
                for text in ("", "a", TOO_LONG):
                    command = (word, *[text] * (many - 1))
                    is_odd = told in ("(K T)", "K (T T)") and many % 2 != least % 2
                    self.assertEqual(first_error(command) == "words", not least <= many <= most or is_odd, command)

    def test_each_place_with_a_text_that_cannot_stand_there(self):
        pick = chance(102)
        for word in grammar.WORDS:
            for command, row in commands(word, pick, 2):
                for at, slot in enumerate(row):
                    for text, code in BAD.get(slot, []):
                        wrong = (*command[:at + 1], text, *command[at + 2:])
                        # A whole number or an option of the row can stand there all the same, and more can be wrong.
                        expected = rows.first_error(wrong)
                        self.assertEqual(first_error(wrong), expected, wrong)
                        if slot in ("K", "C", "A", "Z", "O", "R", "W", "B"):
                            self.assertEqual(expected, code, wrong)
                    if slot.islower():
                        wrong = (*command[:at + 1], slot.upper(), *command[at + 2:])
                        number = word == "zadd" and not set(row[1:at]) - {"new", "old", "up", "down", "changed"}
                        self.wrong("number" if number and len(row) > at + 2 else "syntax", wrong)

    def test_what_lacks_at_the_end(self):
        pick = chance(103)
        for word in grammar.WORDS:
            for command, row in commands(word, pick, 2):
                for end in range(rows.COUNTS[rows.ROWS[word]][0], len(command)):
                    self.assertEqual(first_error(command[:end]), rows.first_error(command[:end]), command[:end])

    def test_options(self):
        for code, told in (
            ("syntax", ("set k t new old", "set k t new new", "set k t keep for 5", "set k t for 5 until 5", "set k t was was",
                        "set k t for", "set k t until", "set k t new for", "set k t x", "set k t New", "set k t for 5 for 5",
                        "set k t 5", "copy a b x", "copy a b copy", "expire k 5 x", "expireat k 5 keep", "zrank k m forward",
                        "zadd k new up 1 m", "zadd k up new 1 m", "zadd k new down 1 m", "zadd k up down 1 m",
                        "zadd k new old 1 m", "zadd k changed changed 1 m", "zadd k new changed", "zadd k new 1",
                        "zadd k 1 m x", "zadd k 1 m 2", "zadd k new x", "zadd k 1 m new", "zadd k up down up 5 x",
                        "zrange k 0 1 x", "zrange k 0 1 back back", "zrange k 0 1 byscore bytext", "zrange k 0 1 skip",
                        "zrange k 0 1 byscore skip 1", "zrange k 0 1 byscore skip 1 most", "zrange k 0 1 most 1",
                        "zrange k 0 1 byscore most 1 skip 1", "zrange k 0 1 byscore skip 1 least 1",
                        "zrange k 0 1 skip 1 most 1", "zrange k x y skip 1 most 1", "zrange k 0 1 back skip 1 most 1 scores",
                        "zrange k a - bytext", "zrange k - [a x", "zrange k x y back byscore bytext", "zdrop k 0 1 back",
                        "zrange k 0 1 byscore skip 1 most 1 skip 1", "zunionto z 2 a b x", "zunionto z 2 a", "zunionto z 1 a sum sum",
                        "zunionto z 1 a sum least", "zunionto z 2 a b weights 1", "zunionto z 1 a weights",
                        "zunionto z 1 a weights 1 weights 1", "zunionto z 2 a b weights 1 2 3", "zunionto z 1 a b",
                        "scan 0 count", "scan 0 match", "scan 0 kind", "scan 0 count 1 count 1", "scan 0 kind x", "scan 0 match a b",
                        "zdrop k - a bytext", "zdrop k 1 2 bytext", "insert k inside a b", "move a b up left", "move a b left Left",
                        "zpop k first", "zpop k 1")),
            ("number", ("set k t for x", "set k t for new", "set k t for 5x", "zadd k x m", "zadd k 1 m x n", "zadd k 1 m new n",
                        "zadd k x 1 m", "zadd k new x m", "zrange k x 1", "zrange k 0 - back", "zrange k - +", "zrange k (1 2",
                        "zrange k x y byscore", "zrange k 0 [1 byscore", "zrange k ( 1 byscore", "zdrop k - 1", "zdrop k 1 x byscore",
                        "zrange k 0 1 byscore skip x most 1", "zrange k 0 1 byscore skip 1 most x", "zbetween k x y",
                        "zunionto z x a", "zunionto z 2 a b weights 1 x", "zunionto z 2 a b weights 1 sum", "scan x", "scan 0 count x",
                        "add k 1.5", "add k 9223372036854775808", "popl k x", "zpop k least x", "trim k 0 x", "expire k x")),
            ("range", ("set k t for 0", "set k t for -5", "set k t for 1000000000000001", "set k t until -1",
                       "set k t until 1000000000000001", "expireat k -1", "expireat k 1000000000000001 x", "popl k -1", "popr k -1",
                       "spop k -1", "zpop k least -1", "zrange k 0 1 byscore skip -1 most 1", "zrange k 0 1 skip 1 most -1 x",
                       "zunionto z 0 a", "zunionto z 61 a", "zunionto z -1 a", "scan -1", "scan 65536 x", "scan 0 count 0",
                       "scan 0 count 1001")),
            (None, ("expire k -9223372036854775808", "set k t until 0 was", "zpop k greatest 0", "zrange k 5 -5 scores back",
                    "zrange k ( [ bytext", "zrange k + - byscore", "scan 65535 count 1000", "zadd k 1 new", "zadd k up 1 up 2 new",
                    "zadd k old up 1 m", "zunionto z 1 z", "drop k 0 ", "at k -1")),
        ):
            for line in told:
                command = tuple(line.split(" "))
                self.assertEqual(first_error(command), code, line)
                self.assertEqual(rows.first_error(command), code, line)

    def test_the_first_wrong_text_from_the_left(self):
        for command, code in (
            (("get", ""), "syntax"), (("get", TOO_LONG), "size"), (("del", TOO_LONG, ""), "size"), (("del", "", TOO_LONG), "syntax"),
            (("rename", "a", TOO_LONG), "size"), (("add", "", "x"), "syntax"), (("add", TOO_LONG, "x"), "size"),
            (("add", "a", "x"), "number"), (("part", "a", "x", ""), "number"), (("popl", "", "-1"), "syntax"),
            (("setall", "a", "", "", "b"), "syntax"), (("setall", "a", TOO_LONG, TOO_LONG, "b"), "size"),
            (("hset", "a", "", TOO_LONG), None), (("sadd", "a", ""), None), (("set", "a", "x" * 200), None),
            (("insert", "", "inside", "a", "b"), "syntax"), (("insert", TOO_LONG, "inside", "a", "b"), "size"),
            (("move", "a", TOO_LONG, "up", "left"), "size"), (("zunionto", TOO_LONG, "0", ""), "size"),
            (("zunionto", "a", "0", ""), "range"), (("zunionto", "a", "2", ""), "syntax"), (("zunionto", "a", "2", TOO_LONG), "size"),
            (("zunionto", "a", "2", "b", TOO_LONG, "x"), "size"), (("zunionto", "a", "1", "b", "x"), "syntax"),
            (("zrange", "", "x", "y", "z"), "syntax"), (("zrange", TOO_LONG, "x", "y", "z"), "size"),
            (("zrange", "a", "x", "y", "skip", "-1"), "range"), (("zrange", "a", "x", "y", "skip", "z"), "number"),
            (("zrange", "a", "x", "y", "skip", "1", "most", "1"), "syntax"), (("zrange", "a", "x", "y", "byscore"), "number"),
            (("zbetween", "", "x", "y"), "syntax"), (("zbetween", "a", "(", "+"), "number"), (("expire", TOO_LONG, "x", "y"), "size"),
            (("expireat", "a", "-1", "y"), "range"), (("set", "", "t", "y"), "syntax"), (("set", TOO_LONG, "t", "y"), "size"),
            (("zadd", TOO_LONG, "new", "new"), "size"), (("zadd", "a", "new", "up", "x", "m"), "syntax"), (("size", ""), "words"),
            (("setall", "", "b", "c"), "words"), (("hset", "", "b", "c", "d"), "words"), (("nope", ""), "unknown"),
        ):
            self.assertEqual(first_error(command), code, command)
            self.assertEqual(rows.first_error(command), code, command)

    def test_many_that_are_a_little_wrong(self):
        pick = chance(104)
        texts = ["", "a", TOO_LONG, "1", "0", "-1", "3", "61", "65536", "1001", "1000000000000001", "(1", "-", "+", "[a", "("]
        texts += sorted({slot for word in rows.ROWS for row in rows.rows(word, 1) for slot in row if slot.islower()})
        for word in grammar.WORDS:
            known = list(commands(word, pick, 2))
            for _ in range(120):
                wrong = list(pick.choice(known)[0][1:])
                for _ in range(pick.choice((1, 1, 2, 3))):
                    at = pick.randrange(len(wrong) + 1)
                    wrong[at:at + pick.choice((0, 1, 1))] = pick.choice(([], [pick.choice(texts)]))
                command = (word, *wrong)
                self.assertEqual(first_error(command), rows.first_error(command), command)
