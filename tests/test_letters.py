"""Stage 16: letters."""

import functools

from deedline.base import letters
from deedline.base.letters import Reader, read_command, read_reply, write_command, write_reply
from deedline.base.replies import CODES, is_reply
from deedline.errors import BadLetters, InvalidCommand, InvalidOperation
from tests.helpers import LEAST, MOST, SIGNS, Case, chance, not_commands, not_of, values
from tests.rows import number

COMMANDS = [
    ("get", "a"), ("",), ("set", "a b", ""), ("x" * 200, ";", ":;t0:;"), ("a",) * 64, ("",) * 64, (SIGNS, SIGNS), ("\\", "c1:t0:;;", "%"),
    ("a" * 9, "b" * 10, "c" * 99, "d" * 100),
]
REPLIES = [
    ("done",), ("none",), ("text", ""), ("text", SIGNS), ("text", "k;z;"), ("text", "a" * 200), ("number", 0), ("number", -1), ("number", LEAST),
    ("number", MOST), ("number", 10), ("list", ()), ("list", (("done",),)), ("list", (("none",),) * 1000), *[("error", code) for code in CODES],
    ("list", (("list", (("list", (("list", ()), ("text", "l1:"))), ("number", -7))), ("error", "kind"), ("list", ()))),
    ("list", (("list", (("list", (("list", (("done",),) * 9),) * 2),) * 3),)), ("list", tuple(("number", at) for at in range(-60, 60))),
]
WRITERS = {"commands": write_command, "replies": write_reply}
READERS = {"commands": read_command, "replies": read_reply}
SOME = {"commands": COMMANDS, "replies": REPLIES}
COUNTS = {letter: tuple(f"{at}:" for at in range(least, most + 1)) for letter, least, most in (("t", 0, 200), ("c", 1, 64), ("l", 0, 1000))}
ENDED_CODES = tuple(code + ";" for code in CODES)


class Stopped(Exception):
    """Reading stopped at an index: at a bad sign, or at the end."""


@functools.lru_cache(None)
def beginnings(options):
    """All beginnings of some strings, and the strings."""
    return {option[:end] for option in options for end in range(len(option) + 1)}, set(options)


def expect(signs, at, options):
    """The index behind the one of some strings, or signs, that stands there, none of which begins another."""
    good, whole = beginnings(options)
    told = ""
    while told not in whole:
        if at == len(signs) or told + signs[at] not in good:
            raise Stopped(at)
        told, at = told + signs[at], at + 1
    return at


def end_of_number(signs, at):
    told = ""
    while at < len(signs) and signs[at] != ";" and (told + signs[at] == "-" or number(told + signs[at]) is not None):
        told, at = told + signs[at], at + 1
    if at == len(signs) or number(told) is None:
        raise Stopped(at)
    return expect(signs, at, ";")


def end_of(signs, at, kinds, deep):
    """The index behind what begins at one, with one of some letters."""
    letter = signs[expect(signs, at, kinds) - 1]
    at += 1
    if letter == "n":
        return end_of_number(signs, at)
    if letter == "e":
        return expect(signs, at, ENDED_CODES)
    if letter in "tcl":
        end = expect(signs, at, COUNTS[letter])
        count, at = int(signs[at:end - 1]), end
        members = {"c": "t", "l": "tnlkze" if deep > 1 else "tnkze"}
        for _ in range(count):
            at = expect(signs, at, SIGNS) if letter == "t" else end_of(signs, at, members[letter], deep - 1)
    return expect(signs, at, ";")


def first_stop(kind, signs):
    """The index of the first bad sign, or the number of signs; and the ends of all that is whole."""
    at, ends = 0, []
    try:
        while True:
            at = end_of(signs, at, "c" if kind == "commands" else "tnlkze", 4)
            ends.append(at)
    except Stopped as stopped:
        return stopped.args[0], ends


class Single(Case):
    def test_constants(self):
        self.assertEqual((letters.MAX_MEMBERS, letters.MAX_DEEP, letters.MAX_PIECE), (1000, 4, 4000))

    def test_letters(self):
        for reply, told in (
            (("text", ""), "t0:;"), (("text", "a;b"), "t3:a;b;"), (("text", "x" * 10), "t10:xxxxxxxxxx;"), (("number", 0), "n0;"), (("number", -12), "n-12;"),
            (("list", ()), "l0:;"), (("list", (("done",), ("none",))), "l2:k;z;;"), (("error", "broken"), "ebroken;"), (("done",), "k;"), (("none",), "z;"),
        ):
            self.assertEqual(write_reply(reply), told)
        self.assertEqual(write_command(("get", "", "k;")), "c3:t3:get;t0:;t2:k;;;")

    def test_there_and_back(self):
        for kind in SOME:
            for thing in SOME[kind]:
                told = WRITERS[kind](thing)
                self.assertEqual(READERS[kind](told), thing)
                self.assertEqual(first_stop(kind, told), (len(told), [len(told)]))

    def test_none_is_a_beginning_of_another(self):
        told = [WRITERS[kind](thing) for kind in SOME for thing in SOME[kind]]
        for one in told:
            self.assertEqual([other for other in told if other.startswith(one)], [one])

    def test_cut_at_each_place(self):
        for kind in SOME:
            for thing in SOME[kind]:
                told = WRITERS[kind](thing)
                places = range(len(told)) if len(told) < 400 else [*range(60), len(told) // 2, len(told) - 2, len(told) - 1]
                for at in places:
                    self.refused(BadLetters, at, READERS[kind], told[:at])
                for more in ("k", ";", "c1:t0:;;", "k;", " ", "\n"):
                    self.refused(BadLetters, len(told), READERS[kind], told + more)

    def test_with_each_sign_spoilt(self):
        pick = chance(16)
        for kind in SOME:
            for thing in SOME[kind]:
                told = WRITERS[kind](thing)
                places = range(len(told)) if len(told) < 100 else sorted(pick.sample(range(len(told)), 25))
                for at in places:
                    for sign in ["0", "1", "9", ":", ";", "-", "t", "l", "c", "e", "\n", "a", "\u00e9"]:
                        self.read_as_told(kind, told[:at] + sign + told[at + 1:])
                        self.read_as_told(kind, told[:at] + sign + told[at:])
                    self.read_as_told(kind, told[:at] + told[at + 1:])

    def read_as_told(self, kind, signs):
        """Reads a string as the plain reader of this file does."""
        stop, ends = first_stop(kind, signs)
        if ends and ends[0] == len(signs):
            self.assertEqual(WRITERS[kind](READERS[kind](signs)), signs)
        else:
            self.refused(BadLetters, ends[0] if ends else stop, READERS[kind], signs)
        reader = Reader(kind)
        found = [one for at in range(0, len(signs), 4000) for one in reader.feed(signs[at:at + 4000])]
        bad = stop if stop < len(signs) else None
        told = (reader.bad, reader.total, reader.pending, reader.made())
        self.assertEqual(told, (bad, stop, signs[ends[-1] if ends else 0:stop], len(ends)))
        self.assertEqual("".join(map(WRITERS[kind], found)), signs[:ends[-1] if ends else 0])

    def test_bad_signs(self):
        for signs, at in (
            ("", 0), ("x", 0), ("c1:", 0), ("k", 1), ("k:", 1), ("K;", 0), ("t", 1), ("t:", 1), ("t00:", 2), ("t01:", 2), ("t201:", 3), ("t21:", 4), ("t210:", 3),
            ("t1000:", 4), ("t200:", 5), ("t2:a;", 5), ("t1:ab", 4), ("t1:\n;", 3), ("t1:\u00e9;", 3), ("t-1:", 1), ("t 1:", 1), ("t1;", 2), ("n", 1), ("n;", 1),
            ("n-;", 2), ("n-0;", 2), ("n00;", 2), ("n01;", 2), ("n+1;", 1), ("n--1;", 2), ("n1-;", 2), ("n 1;", 1), ("n%d;" % (MOST + 1), 19), ("n%d;" % (LEAST - 1), 20),
            ("n%d0;" % MOST, 20), ("n1:", 2), ("ekin;", 4), ("ekindx;", 5), ("ex;", 1), ("e;", 1), ("er;", 2), ("e", 1), ("ekind", 5), ("eK", 1), ("l", 1), ("l1:", 3),
            ("l1:;", 3), ("l0:k;;", 3), ("l01:", 2), ("l1000:", 6), ("l1001:", 4), ("l999:k;;", 7), ("l1:k;k;;", 5), ("l1:l1:l1:l1:l0:;;;;;", 12), ("l4:l1:l1:l1:l", 12),
            ("l1:l1:l1:l1:", 12), ("l1:k;", 5), ("l1:c1:", 3), ("k;k;", 2), ("k;x", 2), ("z;;", 2),
        ):
            self.refused(BadLetters, at, read_reply, signs)
            self.assertIs(first_stop("replies", signs)[0] == at or at in first_stop("replies", signs)[1], True)
        for signs, at in (
            ("", 0), ("k;", 0), ("c", 1), ("c0:", 1), ("c65:", 2), ("c64:", 4), ("c7:", 3), ("c70:", 2), ("c1:;", 3), ("c1:t0:;", 7), ("c1:k;;", 3), ("c1:c1:", 3), ("t0:;", 0),
            ("c2:t0:;;", 7), ("c1:t0:;t", 7), ("c1:t0:;;c", 8), ("c01:", 1), ("c1:t201:", 6), ("c1:n5;;", 3),
        ):
            self.refused(BadLetters, at, read_command, signs)

    def test_refused(self):
        for value in not_commands():
            self.refused(InvalidCommand, None, write_command, value)
        for value in values():
            if not is_reply(value):
                self.refused(InvalidOperation, None, write_reply, value)
            if type(value) is not str:
                self.refused(InvalidOperation, None, read_command, value)
                self.refused(InvalidOperation, None, read_reply, value)
        deep = ("list", (("list", (("list", (("list", (("list", ()),)),)),)),))
        self.refused(InvalidOperation, None, write_reply, deep)
        self.refused(InvalidOperation, None, write_reply, ("list", (("done",),) * 1001))


class Pieces(Case):
    def fed(self, kind, pieces):
        """A reader that was fed, and all that it told."""
        reader = Reader(kind)
        found = []
        for piece in pieces:
            told = reader.feed(piece)
            self.assertIs(type(told), tuple)
            found += told
            self.assertIn(reader.bad, (None, reader.total))
        return reader, found

    def told(self, reader):
        return (reader.kind, reader.total, reader.pending, reader.bad, reader.made())

    def test_a_new_one(self):
        for kind in SOME:
            self.assertEqual(self.told(Reader(kind)), (kind, 0, "", None, 0))
            self.assertEqual(Reader(kind).feed(""), ())

    def test_whatever_the_pieces(self):
        pick = chance(17)
        for kind in SOME:
            for turn in range(60):
                things = [thing for thing in pick.sample(SOME[kind], 4) if len(WRITERS[kind](thing)) < 700]
                signs = "".join(map(WRITERS[kind], things))
                if turn % 3:
                    at = pick.randrange(len(signs))
                    signs = signs[:at] + pick.choice("0;:xk\n") + signs[at + turn % 2:]
                whole = self.fed(kind, [signs])
                cuts = sorted(pick.randrange(len(signs) + 1) for _ in range(pick.randrange(9)))
                for pieces in ([signs[low:high] for low, high in zip([0, *cuts], [*cuts, len(signs)])], list(signs)):
                    reader, found = self.fed(kind, pieces)
                    self.assertEqual((self.told(reader), found), (self.told(whole[0]), whole[1]))
                if turn % 3 == 0:
                    self.assertEqual((whole[1], self.told(whole[0])), (things, (kind, len(signs), "", None, len(things))))

    def test_going_on_like_one_that_was_fed_with_what_is_pending(self):
        for kind in SOME:
            things = [thing for thing in SOME[kind] if len(WRITERS[kind](thing)) < 150]
            signs = "".join(map(WRITERS[kind], things))
            for at in range(0, len(signs) - 1, 7):
                reader, found = self.fed(kind, [signs[:at]])
                self.assertTrue(len(reader.pending) <= at and signs[:at].endswith(reader.pending))
                other, nothing = self.fed(kind, [reader.pending])
                twin = reader.twin()
                self.assertEqual((nothing, self.told(twin)), ([], self.told(reader)))
                rest = signs[at:]
                told = reader.feed(rest[:4000])
                self.assertEqual((other.feed(rest[:4000]), twin.feed(rest[:4000])), (told, told))
                self.assertEqual((*found, *told), tuple(things))
                self.assertEqual((self.told(twin), other.pending), (self.told(reader), ""))

    def test_behind_a_bad_sign(self):
        reader = Reader("replies")
        self.assertEqual(reader.feed("k;n5;t2:a"), (("done",), ("number", 5)))
        self.assertEqual(self.told(reader), ("replies", 9, "t2:a", None, 2))
        self.assertEqual(reader.feed("b;z;n-xk;"), (("text", "ab"), ("none",)))
        before = ("replies", 15, "n-", 15, 4)
        self.assertEqual(self.told(reader), before)
        for piece in ("", "k;", "5;", "x" * 4000, "\u00e9"):
            self.assertEqual((reader.feed(piece), reader.feed(piece)), ((), ()))
            self.assertEqual(self.told(reader), before)
        self.assertEqual(self.told(reader.twin()), before)
        for value in [*not_of(str), "k" * 4001]:
            self.refused(InvalidOperation, None, reader.feed, value)

    def test_long_pieces(self):
        reader = Reader("replies")
        self.assertEqual(reader.feed("k;" * 2000), (("done",),) * 2000)
        self.refused(InvalidOperation, None, reader.feed, "k;" * 2000 + "k")
        self.assertEqual(self.told(reader), ("replies", 4000, "", None, 2000))
        letters_of = write_command(("x" * 200,) * 64)
        reader, found = self.fed("commands", [letters_of[at:at + 4000] for at in range(0, len(letters_of), 4000)])
        self.assertEqual((found, self.told(reader)), ([("x" * 200,) * 64], ("commands", len(letters_of), "", None, 1)))

    def test_a_twin_is_independent(self):
        reader, _ = self.fed("commands", ["c2:t1:a;t3:b"])
        twin = reader.twin()
        self.assertEqual(twin.feed("cd;;c"), (("a", "bcd"),))
        self.assertEqual(self.told(reader), ("commands", 12, "c2:t1:a;t3:b", None, 0))
        self.assertEqual(reader.feed("xy;;"), (("a", "bxy"),))
        self.assertEqual(self.told(twin), ("commands", 17, "c", None, 1))

    def test_equality(self):
        reader, _ = self.fed("commands", ["c1:t0:;;", "c1"])
        for kind, pieces in (("commands", ["c1:t0:;;c"]), ("commands", ["c1"]), ("commands", ["c1:t1:a;;c1"]), ("replies", []),
                             ("commands", ["c1:t0:;;c1x"]), ("commands", [])):
            other, _ = self.fed(kind, pieces)
            self.assertIs(reader == other, False)
            self.assertIs(reader != other, True)
            self.assertIs(Reader("commands") == other, (kind, pieces) == ("commands", []))
        self.assertIs(reader == self.fed("commands", ["c1:t0", ":;;c1"])[0], True)
        self.assertIs(reader == reader.twin(), True)
        self.unlike(reader)

    def test_refused(self):
        for value in [*values(), "command", "Commands", ("commands",)]:
            self.refused(InvalidOperation, None, Reader, value)
        reader, _ = self.fed("commands", ["c1:t5:ab"])
        before = self.told(reader)
        for value in [*not_of(str), "x" * 4001, "x" * 5000]:
            self.refused(InvalidOperation, None, reader.feed, value)
        self.assertEqual(self.told(reader), before)
