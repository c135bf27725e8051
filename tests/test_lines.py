"""Stage 28: lines of words, and shown replies."""

import re

from deedline.base.replies import CODES, is_reply
from deedline.errors import InvalidOperation, InvalidText, ParseError
from deedline.text.lines import line_of, read_shown, show, words_of
from tests.helpers import LEAST, MOST, SIGNS, Case, chance, not_texts, values

WORD = re.compile(r' *(?:([^ "\\]+)|"((?:[^"\\]|\\["\\])*)")(?= |$)')
REPLIES = (
    (("done",), "done"), (("none",), "none"), (("number", 0), "0"), (("number", LEAST), str(LEAST)), (("number", MOST), str(MOST)), (("text", ""), '""'), (("text", "a b"), '"a b"'),
    (("text", '"\\'), '"\\"\\\\"'), (("error", "kind"), "!kind"), (("list", ()), "[]"), (("list", (("done",), ("number", -3))), "[done, -3]"), (("text", "done, [x]!"), '"done, [x]!"'),
    (("list", (("list", (("list", (("list", ()), ("text", ","))), ("none",))), ("error", "size"))), '[[[[], ","], none], !size]'), (("text", SIGNS), None), (("text", "x" * 200), None),
    (("list", (("none",),) * 1000), None), *[(("error", code), "!" + code) for code in CODES],
)


def plain_words(line):
    """The words of a line that is right, and where each begins; None if it is not."""
    at, words = 0, []
    line = line.rstrip(" ")
    while at < len(line):
        told = WORD.match(line, at)
        if told is None:
            return None
        quoted = told[2]
        words.append(told[1] if quoted is None else re.sub(r"\\(.)", r"\1", quoted))
        at = told.end()
    return tuple(words)


def bad_index(line):
    """The index of the first sign that cannot stand, found by what can be put behind each beginning."""
    for at in range(len(line) + 1):
        beginning = line[:at]
        if not any(plain_words(beginning + more) is not None for more in ("", '"', '\\"', '""')):
            return at - 1
    return len(line)


class Words(Case):
    def test_words(self):
        for line, words in (
            ("", ()), ("   ", ()), ("a", ("a",)), ("  get   a ", ("get", "a")), ('""', ("",)), ('"" ""', ("", "")), ('"a b"  c', ("a b", "c")), ('"\\"" "\\\\"', ('"', "\\")), ("a'b [c] !d, #", ("a'b", "[c]", "!d,", "#")),
            ('" "', (" ",)), ('"a" ', ("a",)), ("~", ("~",)), ('"\\\\\\""', ('\\"',)), ("x" * 200, ("x" * 200,)), ('"' + "x" * 200 + '"', ("x" * 200,)), ('"' + "\\\\" * 200 + '"', ("\\" * 200,)),
            ("a " * 2000, ("a",) * 2000),
        ):
            self.assertEqual((line, words_of(line)), (line, words))

    def test_signs_that_cannot_stand(self):
        for line, at in (
            ('a"', 1), ('a"b"', 1), ("a\\", 1), ("\\", 0), ("\\a", 0), (' b\\"', 2), ('"a"b', 3), ('"a""b"', 3), ('"a"\\', 3), ('"', 1), ('"abc', 4), ('"a\\', 3), ('"a\\b"', 3), ('"a\\ "', 3), ('x "a\\"', 6), ('"" a"', 4),
            ('"a b" "c', 8), ('"\\\\\\', 4), ('a b"c d"e "', 3), ('"\\n"', 2),
        ):
            self.refused(ParseError, at, words_of, line)

    def test_long_words(self):
        for line, at in (("x" * 201, 0), ("a  " + "x" * 201, 3), ('a "' + "x" * 201 + '" b', 2), ("a " + "x" * 201 + " " + "y" * 201, 2), ("x" * 200 + ' "' + "\\\\" * 201 + '"', 201)):
            self.refused(ParseError, at, words_of, line)
        # What cannot stand comes ahead of what is too long.
        self.refused(ParseError, 203, words_of, "x" * 201 + ' a"')
        self.refused(ParseError, 203, words_of, "x" * 201 + ' "')

    def test_long_lines(self):
        self.assertEqual(words_of(" " * 4000), ())
        self.assertEqual(words_of("a" + " " * 3999), ("a",))
        for value in (" " * 4001, "a " * 2001, '"' + "x" * 4000):
            self.refused(InvalidText, value, words_of, value)
        self.refused(ParseError, 0, words_of, "x" * 4000)
        self.refused(ParseError, 4000, words_of, '"' + "x" * 3999)
        for value in [value for value in values() if type(value) is not str] + ["a\nb", "\n", "\t", "a\x7f", "\u00e9"]:
            self.refused(InvalidText, value, words_of, value)

    def test_each_short_line(self):
        # All lines of up to six of these signs.
        row = [""]
        for _ in range(6):
            row = [line + sign for line in row for sign in 'a "\\' if len(line) == len(row[-1])]
            for line in row:
                words = plain_words(line)
                if words is None:
                    self.refused(ParseError, bad_index(line), words_of, line)
                else:
                    self.assertEqual(words_of(line), words)
                    self.assertLessEqual(len(line_of(words)), len(line))

    def test_there_and_back(self):
        pick = chance(5)
        for _ in range(600):
            words = tuple("".join(pick.choice('ab "\\!,[]') for _ in range(pick.randrange(6))) for _ in range(pick.randrange(5)))
            line = line_of(words)
            self.assertEqual((words_of(line), plain_words(line)), (words, words))
            self.assertEqual(words_of("  " + line + " "), words)

    def test_line_of(self):
        for words, line in (((), ""), (("a",), "a"), (("", "a b", "c"), '"" "a b" c'), (('"', "\\", 'a"b\\'), '"\\"" "\\\\" "a\\"b\\\\"'), ((" ",), '" "'), (("x" * 200,) * 30, " ".join(["x" * 200] * 30))):
            self.assertEqual(line_of(words), line)
        for value in [value for value in values() if type(value) is not tuple] + [("a", value) for value in not_texts()] + [["a"], "a"]:
            self.refused(InvalidOperation, None, line_of, value)


class Shown(Case):
    def test_there_and_back(self):
        for reply, shown in REPLIES:
            if shown is not None:
                self.assertEqual(show(reply), shown)
            self.assertEqual(read_shown(show(reply)), reply)
        self.assertEqual(show(("text", "x" * 200)), '"' + "x" * 200 + '"')
        self.assertEqual(show(("list", (("none",),) * 3)), "[none, none, none]")

    def test_texts_near_shown_ones(self):
        good = {show(reply) for reply, _ in REPLIES}
        near = ["", " ", "Done", "done ", " done", "none,", "non", "!", "!kin", "!kinds", "! kind", "01", "-0", "+1", "--1", "-", "1.0", str(MOST + 1), str(LEAST - 1), "1 ", '"', '"a', 'a"', '"a"b', '"a""b"', '"\\a"', '"\\"', "a",
                "[", "]", "[]]", "[[]", "[,]", "[ ]", "[1,2]", "[1,  2]", "[1, ]", "[, 1]", "[1 , 2]", "[1, 2", "1, 2]", "[1], [2]", "[1, 2] ", "[[[[[]]]]]", "[[[[[", "text", "list", '["a" "b"]', "[none none]", "[done]done", "\n", "done\n",
                '"a\nb"', '"' + "x" * 201 + '"', "[" + ", ".join(["none"] * 1001) + "]", "[" * 4000, "1" * 4000, '"' * 4000, "[" * 4 + "]" * 5, "none]", '"a",', "[!kind!size]", "[1, 2, 03]"]
        for shown in near:
            self.refused(ParseError, None, read_shown, shown)
        for shown in sorted(good):
            if len(shown) < 100:
                for at in range(len(shown)):
                    for other in (shown[:at], shown[:at] + shown[at + 1:], *[shown[:at] + sign + shown[at:] for sign in ' ,["\\1!']):
                        self.read(other)

    def read(self, shown):
        """A text is read just if it is the shown text of what is read."""
        try:
            reply = read_shown(shown)
        except ParseError as wrong:
            self.assertIsNone(wrong.index)
        else:
            self.assertTrue(is_reply(reply))
            self.assertEqual(show(reply), shown)

    def test_refused(self):
        for value in values():
            if not is_reply(value):
                self.refused(InvalidOperation, None, show, value)
            if type(value) is not str:
                self.refused(ParseError, None, read_shown, value)
        for value in (("text", 1), ("number", True), ("error", "x"), ("list", ("a",)), ["done"], ("list", [("done",)])):
            self.refused(InvalidOperation, None, show, value)

    def test_replies_that_look_like_chance(self):
        pick = chance(8)

        def made(deep):
            what = pick.randrange(6 if deep else 5)
            if what == 5:
                return ("list", tuple(made(deep - 1) for _ in range(pick.randrange(4))))
            return (("done",), ("none",), ("number", pick.randrange(-50, 50)), ("error", pick.choice(CODES)), ("text", "".join(pick.choice('ab, []"\\!') for _ in range(pick.randrange(8)))))[what]

        for _ in range(500):
            reply = made(4)
            self.assertEqual(read_shown(show(reply)), reply)
            shown = show(reply)
            at = pick.randrange(len(shown))
            self.read(shown[:at] + pick.choice(SIGNS) + shown[at + 1:])
