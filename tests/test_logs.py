"""Stage 21: logs and snapshots."""

import re

from deedline.base.hashes import sum_of
from deedline.disk import texts as module
from deedline.disk.texts import (
    block_text, is_branch, log_text, read_blocks, read_log, read_snapshot, row_text, rows_of, snapshot_text,
)
from deedline.errors import InvalidOperation, InvalidText, ParseError
from deedline.plain.store import is_line, is_unit
from deedline.plain.grammar import WORDS
from deedline.store.core import Store
from tests.helpers import LEAST, MOST, SIGNS, Case, not_stores, values
from tests.model_store import Times

END = 10 ** 15
PLACES = 10 ** 12
BRANCH = ((0, 0), (3, 12), (5, 12))
KEPT = {
    "t": ("text", "a;b:c d", None), "l": ("list", ("", "x", ";", "1:2"), 50), "s": ("set", ("-3", "007", "b"), 0),
    "z": ("sorted", ((LEAST, "lo"), (0, ""), (MOST, "hi")), END), "m": ("map", (("", "e"), ("f", "")), None), "k " * 20: ("text", SIGNS, 7), "e": ("text", "", None),
}
UNITS = (
    (3, (("set", "a", ""),)), (3, (("gone", "t"), ("del", "l"))), (9, (("setall", "a;", "1:", "b", " "), ("out", "z"), ("clear",))), (END, (("pushr", "q", "x" * 200),)),
)


def not_branches():
    near = [(), ((0, 0), (0, 0)), ((1, 0),), ((0, 1),), ((0, 0), (0, 5)), ((0, 0), (2, 5), (1, 6)), ((0, 0), (1, 5), (2, 4)), ((0, 0), (1, 5), (1, 6)), ((False, 0),),
            ((0, False),), ((0, 0), (True, 5)), ((0, 0), (1, True)), ((0, 0), (1, PLACES + 1)), ((0, 0), (PLACES + 1, 5)), ((0, 0), (1, -1)), ((0, 0), (1,)), ((0, 0), (1, 2, 3)),
            ((0, 0), [1, 2]), [(0, 0)], ((0, 0), 5), (0, 0), ((0, 0), (1, None)), ((0, 0), ("1", 2)), tuple((at, 0) for at in range(21)), ((0, 0), None)]
    return values() + near


def not_snapshots():
    return values() + [({}, 0), ({}, 0, 0, 0), [{}, 0, 0], ({}, True, 0), ({}, 0, True), ({}, -1, 0), ({}, 0, -1), ({}, PLACES + 1, 0), ({}, 0, END + 1), (None, 0, 0),
                       (Store(), 0, 0), ({}, None, 0), ({}, 0, None), ({}, "0", 0)] + [(entries, 0, 0) for entries in not_stores() if entries != {}]


def not_signs():
    return [value for value in values() if type(value) is not str] + ["\t", "a\r", "\x7f", "\x00"]


def line(numbers, body):
    """The line with the told numbers behind the sum, and a body."""
    ahead = " ".join(map(str, numbers))
    return "%d %d %s;%s\n" % (len(body), sum_of(ahead + ";" + body), ahead, body)


def plain_branch(signs):
    """The branch of the head line with which signs begin, or None."""
    told = re.match(r"deedline 1 ((?:\d+@\d+,)*\d+@\d+)\n", signs)
    branch = tuple(tuple(map(int, pair.split("@"))) for pair in told[1].split(",")) if told else ()
    is_same = told and ",".join("%d@%d" % pair for pair in branch) == told[1]
    return branch if is_same and is_branch(branch) else None


def ends_of(units, start=0):
    """The places at which the blocks of units end."""
    ends = [start]
    for unit in units:
        ends.append(ends[-1] + len(block_text(unit)))
    return ends


class Rows(Case):
    def test_constants(self):
        self.assertEqual((module.HEAD, module.MAX_BRANCH), ("deedline 1 ", 20))

    def test_examples(self):
        self.assertEqual([row_text(("set", "a", "")), rows_of("3:set1:a0:;1:;;"), is_branch(((0, 0), (3, 12))), is_branch(((1, 0),))],
                         ["3:set1:a0:;", (("set", "a", ""), (";",)), True, False])

    def test_there_and_back(self):
        rows = [("a",), ("",), ("", ""), (";", ":", "0:;"), (SIGNS, "x" * 200), ("12:", "1:2;"), ("a",) * 300, ("x" * 9, "x" * 10, "x" * 99, "x" * 100)]
        for row in rows:
            self.assertEqual(rows_of(row_text(row)), (row,))
        self.assertEqual(rows_of("".join(map(row_text, rows))), tuple(rows))
        self.assertEqual(rows_of(""), ())
        self.assertEqual(row_text(("x" * 12, "")), "12:" + "x" * 12 + "0:;")

    def test_rows_that_are_not_right(self):
        good = row_text(("ab", "")) + row_text(("c",))
        whole = (0, len(row_text(("ab", ""))), len(good))
        for at in range(len(good)):
            if at not in whole:
                self.refused(ParseError, max(end for end in whole if end < at), rows_of, good[:at])
        for bad in (";", "x", "1:", "1:a", "1:a1", "01:a;", "-1:;", "-0:;", "+1:a;", "201:" + "a" * 201 + ";", "1:\n;", ":;", "2:a;", "0:", " 1:a;", "1 :a;", "1:a ;", "1;", "0001:a;",
                    "1:ab;", "\n", "0:;\n", "99999999999999999999:a;"):
            if bad != "0:;\n":
                self.refused(ParseError, 0, rows_of, bad)
            self.refused(ParseError, len(good) + (3 if bad == "0:;\n" else 0), rows_of, good + bad)
        for value in not_signs():
            self.refused(InvalidText, value, rows_of, value)
        for value in values() + [("a", 1), ("a", "b\n"), ("a", "x" * 201), ["a"], ()]:
            if type(value) is not tuple or not value or not all(type(text) is str and len(text) <= 200 and set(text) <= set(SIGNS) for text in value):
                self.refused(InvalidOperation, None, row_text, value)


class Branches(Case):
    def test_is_branch(self):
        for branch in (((0, 0),), BRANCH, ((0, 0), (PLACES, PLACES)), ((0, 0), (1, 0), (2, 0)), tuple((at, at) for at in range(20))):
            self.assertIs(is_branch(branch), True)
        for value in not_branches():
            self.assertIs(is_branch(value), False, value)


class Blocks(Case):
    def test_text(self):
        self.assertEqual(block_text((7, (("set", "a", ""),))), "11 %d 7;3:set1:a0:;\n" % sum_of("7;3:set1:a0:;"))
        self.assertEqual(block_text((0, (("gone", "k"), ("clear",)))), line([0], "4:gone1:k;5:clear;"))
        for unit in UNITS:
            self.assertEqual(block_text(unit), line([unit[0]], "".join(map(row_text, unit[1]))))
            self.assertEqual(read_blocks(block_text(unit)), ((unit,), len(block_text(unit))))

    def test_refused(self):
        for value in values() + [(1, ()), (1, (("get", "a"),)), (True, (("clear",),)), (1, [("clear",)]), (-1, (("clear",),)), [1, (("clear",),)]]:
            if not is_unit(value):
                self.refused(InvalidOperation, None, block_text, value)
        for value in not_signs():
            self.refused(InvalidText, value, read_blocks, value)

    def test_cut_at_each_sign(self):
        signs = "".join(map(block_text, UNITS))
        ends = ends_of(UNITS)
        for at in range(len(signs) + 1):
            many = sum(end <= at for end in ends) - 1
            self.assertEqual(read_blocks(signs[:at]), (UNITS[:many], ends[many]))

    def test_each_sign_exchanged(self):
        units = UNITS[:3]
        signs, ends = "".join(map(block_text, units)), ends_of(units)
        for at, sign in enumerate(signs):
            many = sum(end <= at for end in ends) - 1
            for other in ("\n", " ", "0", "1", "9", "-", ";", ":", "a", "~", chr((ord(sign) - 31) % 95 + 32) if sign != "\n" else "!"):
                if other != sign:
                    self.assertEqual(read_blocks(signs[:at] + other + signs[at + 1:]), (units[:many], ends[many]), (at, other))

    def test_blocks_that_are_not_right(self):
        good = block_text((5, (("set", "a", "1"),)))
        body = "3:set1:a1:1;"
        bad = [
            line(["05"], body), line(["+5"], body), line([" 5"], body), line(["5 "], body), line([5, 6], body), line([], body), line(["-0"], body), line(["5x"], body),
            line([END + 1], body), line([5], ""), line([5], "3:get1:a;"), line([5], "6:expire1:a1:5;"), line([5], body + "x"), line([5], body[:-1]), line([5], body + ";"),
            line([5], "4:gone0:;"), "0" + good, good.replace(" ", "  ", 1), " " + good, good[:-1] + " \n", "\n", "x\n", ";\n", "%d 0 5;%s\n" % (len(body), body),
            "%d %d 5;%s\n" % (len(body) + 1, sum_of("5;" + body), body), "%d 0%d 5;%s\n" % (len(body), sum_of("5;" + body), body), line([4], body),
            "%d %d 5;%s\n" % (len(body), sum_of("5;" + body) + 99991, body), line([5], "3:set1:a1:1;3:set1:a1:1"), line([5], "03:set1:a1:1;"), line([5], "3:set1:a1:1;1:x;"),
        ]
        for one in bad:
            self.assertEqual(read_blocks(good + one + good), (((5, (("set", "a", "1"),)),), len(good)), one)
            if one != line([4], body):
                self.assertEqual(read_blocks(one), ((), 0))
        self.assertEqual(read_blocks(""), ((), 0))

    def test_times_that_go_back(self):
        units = tuple((time, (("clear",),)) for time in (0, 3, 3, 2, 9))
        self.assertEqual(read_blocks("".join(map(block_text, units)))[0], units[:3])


class Snapshots(Case):
    def test_text(self):
        self.assertEqual(snapshot_text(({}, 0, 0)), "0 492 0 0;\n")
        text = snapshot_text((KEPT, 12, 34))
        rows = ["1:e4:text1:-0:;", row_text(("k " * 20, "text", "7", SIGNS)), "1:l4:list2:500:1:x1:;3:1:2;", "1:m3:map1:-0:1:e1:f0:;", "1:s3:set1:02:-33:0071:b;",
                "1:t4:text1:-7:a;b:c d;", row_text(("z", "sorted", str(END), str(LEAST), "lo", "0", "", str(MOST), "hi"))]
        self.assertEqual(text, line([34, 12], "".join(rows)))
        self.assertEqual(read_snapshot(text), (KEPT, 12, 34))
        self.assertEqual(list(read_snapshot(text)[0]), sorted(KEPT))
        self.assertEqual(snapshot_text((dict(reversed(KEPT.items())), 12, 34)), text)
        self.assertEqual(read_snapshot(snapshot_text(({}, PLACES, END))), ({}, PLACES, END))

    def test_cut_and_exchanged(self):
        small = {key: KEPT[key] for key in "elmstz"}
        text = snapshot_text((small, 12, 34))
        for at, sign in enumerate(text):
            self.refused(ParseError, "snapshot", read_snapshot, text[:at])
            for other in ("\n", " ", "0", "7", "-", ";", ":", "s", "~", "!"):
                if other != sign:
                    self.refused(ParseError, "snapshot", read_snapshot, text[:at] + other + text[at + 1:])
        for more in ("\n", "x", " ", text, block_text(UNITS[0])):
            self.refused(ParseError, "snapshot", read_snapshot, text + more)
            self.refused(ParseError, "snapshot", read_snapshot, more + text)

    def test_snapshots_that_are_none(self):
        good = "1:a4:text1:-1:x;"
        for body in (good * 2, "1:b4:text1:-1:x;" + good, "1:a4:text1:-;", "1:a4:text1:-1:x1:y;", "1:a;", "0:4:text1:-1:x;", "1:a4:texts1:-1:x;", "1:a4:list1:-;", "1:a3:set1:-1:b1:a;",
                     "1:a3:set1:-1:a1:a;", "1:a6:sorted1:-1:1;", "1:a6:sorted1:-1:11:a1:2;", "1:a6:sorted1:-1:21:a1:11:b;", "1:a6:sorted1:-1:x1:a;", "1:a6:sorted1:-2:011:a;", "1:a6:sorted1:-2:-01:a;",
                     "1:a3:map1:-1:b0:1:a0:;", "1:a3:map1:-1:a;", "1:a3:map1:-1:a1:b1:c;", "1:a4:text2:051:x;", "1:a4:text2:-51:x;", "1:a4:text1:x1:x;", "1:a4:text0:1:x;", good + "x", good[:-1],
                     "1:a4:text16:10000000000000011:x;", "41:" + "k" * 41 + "4:text1:-1:x;", ";", "01:a4:text1:-1:x;", "1:a6:sorted1:-19:92233720368547758081:a;"):
            self.refused(ParseError, "snapshot", read_snapshot, line([0, 0], body))
        for numbers in ([0], [], [0, 0, 0], ["00", 0], [0, "00"], ["-0", 0], [0, "+1"], [END + 1, 0], [0, PLACES + 1], ["x", 0], [" 0", 0], [0, "0 "], [-1, 0]):
            self.refused(ParseError, "snapshot", read_snapshot, line(numbers, good))
        self.assertEqual(read_snapshot(line([5, 7], good)), ({"a": ("text", "x", None)}, 7, 5))
        self.refused(ParseError, "snapshot", read_snapshot, line([0, 0], "".join("4:k%03d4:text1:-0:;" % at for at in range(201))))
        self.assertEqual(len(read_snapshot(line([0, 0], "".join("4:k%03d4:text1:-0:;" % at for at in range(200))))[0]), 200)

    def test_refused(self):
        for value in not_snapshots():
            self.refused(InvalidOperation, None, snapshot_text, value)
        for value in not_signs():
            self.refused(InvalidText, value, read_snapshot, value)
        for value in [value for value in values() if type(value) is str and set(value) <= set(SIGNS + "\n")]:
            self.refused(ParseError, "snapshot", read_snapshot, value)


class Logs(Case):
    def test_there_and_back(self):
        for branch in (BRANCH, ((0, 0),), tuple((at, PLACES) if at else (0, 0) for at in range(20))):
            for snapshot in (({}, 0, 0), (KEPT, 12, 3)):
                for many in range(5):
                    log = log_text(branch, snapshot, UNITS[:many])
                    self.assertEqual(log, "deedline 1 " + ",".join("%d@%d" % pair for pair in branch) + "\n" + snapshot_text(snapshot) + "".join(map(block_text, UNITS[:many])))
                    self.assertEqual(read_log(log), (branch, snapshot, UNITS[:many], len(log)))

    def test_cut_and_exchanged(self):
        snapshot, units = ({"a": ("text", "x", None)}, 12, 3), UNITS[:2]
        log = log_text(BRANCH, snapshot, units)
        head = log.index("\n") + 1
        start = head + len(snapshot_text(snapshot))
        ends = ends_of(units, start)
        for at in range(len(log)):
            many = sum(end <= at for end in ends) - 1
            changed = [log[:at] + other + log[at + 1:] for other in "\n 01@,;:a~" if other != log[at]]
            if at >= start:
                self.assertEqual(read_log(log[:at]), (BRANCH, snapshot, units[:many], ends[many]))
                for other in changed:
                    self.assertEqual(read_log(other), (BRANCH, snapshot, units[:many], ends[many]))
            elif at >= head:
                for other in [log[:at], *changed]:
                    self.refused(ParseError, "snapshot", read_log, other)
            else:
                self.refused(ParseError, "head", read_log, log[:at])
                for other in changed:
                    branch = plain_branch(other)
                    if branch is None or other[at] == "\n":
                        self.refused(ParseError, "head" if branch is None else "snapshot", read_log, other)
                    else:
                        self.assertEqual(read_log(other), (branch, snapshot, units, len(log)))

    def test_heads_that_are_none(self):
        rest = snapshot_text(({}, 0, 0))
        for head in ("", "\n", "deedline 1\n", "deedline 1 \n", "deedline 2 0@0\n", "Deedline 1 0@0\n", "deedline 1 0@0", "deedline 1 1@0\n", "deedline 1 0@1\n", "deedline 1 0@0,\n", "deedline 1 ,0@0\n",
                     "deedline 1 00@0\n", "deedline 1 0@00\n", "deedline 1 0@0,1@05\n", "deedline 1 0@0,+1@5\n", "deedline 1 0@0, 1@5\n", "deedline 1 0@0,1@5 \n", "deedline 1 0@0,0@5\n", "deedline 1 -0@0\n",
                     "deedline 1 0@0,2@5,1@6\n", "deedline 1 0@0,1@5,2@4\n", "deedline 1 0@0,1\n", "deedline 1 0@0,1@2@3\n", "deedline 1 0@0,%d@0\n" % (PLACES + 1), " deedline 1 0@0\n", "deedline  1 0@0\n",
                     "deedline 1 " + ",".join("%d@0" % at for at in range(21)) + "\n", "deedline 1 0@0,@\n", "deedline 1 @\n", "deedline 1 0@0,1@\n"):
            self.refused(ParseError, "head", read_log, head + rest)
            self.refused(ParseError, "head", read_log, head)
        self.refused(ParseError, "snapshot", read_log, "deedline 1 0@0\n")
        self.refused(ParseError, "snapshot", read_log, "deedline 1 0@0\n\n" + rest)
        self.refused(ParseError, "snapshot", read_log, "deedline 1 0@0\n" + block_text(UNITS[0]))
        self.assertEqual(read_log("deedline 1 0@0\n" + rest + rest), (((0, 0),), ({}, 0, 0), (), 15 + len(rest)))

    def test_times_that_go_back(self):
        start = "deedline 1 0@0\n" + snapshot_text(({}, 4, 10))
        for times, many in (((10, 10, 11), 3), ((9, 10), 0), ((10, 9, 11), 1), ((12, 11), 1), ((), 0)):
            units = tuple((time, (("clear",),)) for time in times)
            signs = start + "".join(map(block_text, units))
            self.assertEqual(read_log(signs), (((0, 0),), ({}, 4, 10), units[:many], ends_of(units, len(start))[many]))

    def test_refused(self):
        for value in not_branches():
            self.refused(InvalidOperation, None, log_text, value, ({}, 0, 0), ())
        for value in not_snapshots():
            for units in ((), UNITS, 5):
                self.refused(InvalidOperation, None, log_text, ((0, 0),), value, units)
        for value in values() + [((5, (("clear",),)), (4, (("clear",),))), [(5, (("clear",),))]]:
            if not is_line(value):
                self.refused(InvalidOperation, None, log_text, ((0, 0),), ({}, 0, 0), value)
        self.refused(InvalidOperation, None, log_text, ((0, 0),), ({}, 0, 6), ((5, (("clear",),)),))
        for value in not_signs():
            self.refused(InvalidText, value, read_log, value)

    def test_lines_of_stores(self):
        for seed in range(6):
            times = Times(seed + 500, list(WORDS), keys=2)
            store = Store(bound=900, policy="idle", place=5)
            for at in range(120):
                store.call(times.command(), times.now)
                if at == 60:
                    snapshot, place = store.snapshot(), store.place
            log = log_text(BRANCH, snapshot, store.units_from(place))
            self.assertEqual(read_log(log), (BRANCH, snapshot, store.units_from(place), len(log)))
            self.assertEqual(read_snapshot(snapshot_text(store.snapshot())), store.snapshot())

