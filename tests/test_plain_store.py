"""Stage 15: the plain store, deeds and the line."""

import copy

from deedline.errors import InvalidCommand, InvalidOperation, InvalidStore, InvalidTime
from deedline.plain.store import apply, changed_keys, do, do_block, has_run_out, is_deed, is_line, is_unit, replay, resolved, shown
from tests.helpers import ENTRIES, Case, not_commands, not_entries, not_stores, not_times, values
from tests.plain import DONE, LINES, NONE, error, number, text, texts, words_of
from tests.rows import WRITING

END = 10 ** 15
# At 50, `gone` has run out before, `now` just runs out, `soon` runs out later, and `ever` never.
KEPT = {"gone": ("text", "7", 20), "now": ("list", ("a",), 50), "soon": ("set", ("a",), 51), "ever": ("text", "5", None)}
BAD_COMMANDS = [("nope", "a"), ("get",), ("get", ""), ("set", "k", "t", "for", "0"), ("add", "k", "x"), ("del", "k" * 41)]


def gone(*keys):
    return tuple(("gone", key) for key in keys)


def full(over, *more):
    """A store of 200 keys, of which so many have run out at 50, the greatest name first."""
    kept = {"k%03d" % at: ("text", "", 50 - at if at < over else None) for at in range(200 - len(more))}
    return {**kept, **{key: ("text", "1", None) for key in more}}


class Deeds(Case):
    def test_each_word(self):
        for line in LINES:
            command = words_of(line)
            self.assertIs(is_deed(command), command[0] in WRITING and command[0] != "expire", command)
            self.assertIs(is_deed(list(command)), False)
            self.assertIs(is_deed((*command, *["x"] * 63)), False)

    def test_deeds(self):
        good = [("gone", "a"), ("out", "k" * 40), ("set", "k", "t"), ("set", "for", "for"), ("set", "k", "for"), ("set", "k", "t", "until", "0", "new"),
                ("expireat", "k", "5", "later"), ("clear",), ("del", *["a"] * 63), ("zadd", "k", "new", "1", "expire"), ("set", "k", "t", "keep", "was", "old")]
        bad = [("gone",), ("out",), ("gone", ""), ("out", "k" * 41), ("gone", "a", "b"), ("gone", None), ("gone", "a\n"), ("out", ("a",)), ["gone", "a"],
               ("Gone", "a"), ("set", "k", "t", "for", "5"), ("set", "k", "t", "new", "for", "5"), ("expire", "k", "5"), ("expire", "k", "0", "new"),
               ("get", "k"), ("set", "k"), ("set", "", "t"), ("del",), ("nope",), ("scan", "0"), ("kind", "k"), (), ("set", "k", 5), ("set", "k", True),
               ("add", "k", "1.5"), ("clear", "k"), ("set", "k", "t", "until", "-1"), *BAD_COMMANDS, (None, "a"), (("gone",), "a"), ("gone", ["a"])]
        for value in good:
            self.assertIs(is_deed(value), True, value)
            self.assertIs(is_unit((0, (value,))), True)
        for value in [*bad, *values()]:
            self.assertIs(is_deed(value), False, value)
            self.assertIs(is_unit((0, (value,))), False)
            self.assertIs(is_unit((0, (("clear",), value))), False)

    def test_units(self):
        deeds = (("gone", "a"), ("clear",))
        for time in (0, 5, END):
            self.assertIs(is_unit((time, deeds)), True)
        for time in not_times():
            self.assertIs(is_unit((time, deeds)), False)
        for value in [*values(), (5,), (5, ()), (5, deeds, ()), [5, deeds], (5, list(deeds)), (5, deeds[0]), (deeds, 5), (5, None), (True, deeds), deeds]:
            self.assertIs(is_unit(value), False, value)
        self.assertIs(is_unit((5, deeds * 300)), True)

    def test_lines(self):
        deeds = (("clear",),)
        for times in ((), (0,), (END,), (1, 1, 2), (0, 0, 0), (0, 5, END, END)):
            self.assertIs(is_line(tuple((time, deeds) for time in times)), True)
        for times in ((1, 0), (0, 5, 4), (0, END + 1), (-1, 0), (5, 5, 4)):
            self.assertIs(is_line(tuple((time, deeds) for time in times)), False)
        for value in [*values(), [], [(1, deeds)], ((1, deeds), None), ((1, ()),), (1, deeds), {}, "", None, ((1, deeds), [1, deeds])]:
            self.assertIs(is_line(value), value == () and type(value) is tuple, value)


class Times(Case):
    def test_running_out(self):
        for until, now, told in ((None, END, False), (50, 49, False), (50, 50, True), (50, 51, True), (0, 0, True), (END, END - 1, False), (END, END, True)):
            for kind in ENTRIES:
                self.assertIs(has_run_out((*ENTRIES[kind][:2], until), now), told)

    def test_shown(self):
        for now, keys in ((0, "ever gone now soon"), (19, "ever gone now soon"), (20, "ever now soon"), (50, "ever soon"), (51, "ever"), (END, "ever")):
            told = shown(KEPT, now)
            self.assertEqual(told, {key: KEPT[key] for key in keys.split(" ")})
            self.assertEqual(list(told), sorted(told))
            told["x"] = 1
        self.assertEqual(len(KEPT), 4)
        self.assertEqual(shown({}, 5), {})

    def test_refused(self):
        for value in not_entries():
            for now in (5, None):
                self.refused(InvalidStore, None, has_run_out, value, now)
        for value in not_stores():
            for now in (5, None):
                self.refused(InvalidStore, None, shown, value, now)
        for value in not_times():
            self.refused(InvalidTime, value, has_run_out, ENTRIES["set"], value)
            self.refused(InvalidTime, value, shown, KEPT, value)


class Doing(Case):
    def done(self, entries, now, *told):
        """For each line the reply, the changes, None for a dropped key, and the deeds, "" for the command itself."""
        for line, reply, changes, deeds in told:
            command = words_of(line)
            given = {key: entries[key] for key in sorted(entries, reverse=True)}
            before = copy.deepcopy(given)
            after = {**entries, **changes}
            after = {key: after[key] for key in sorted(after) if after[key] is not None}
            deeds = tuple(command if deed == "" else deed for deed in deeds)
            made = do(command, given, now)
            self.assertEqual((line, made), (line, (reply, after, deeds)))
            self.assertEqual((type(made), list(made[1]), given), (tuple, list(after), before))
            self.assertTrue(all(is_deed(deed) for deed in deeds))
            self.made_again(entries, after, deeds, now)
            self.assertEqual(do_block((command,), given, now), ((reply,), after, deeds))

    def made_again(self, entries, after, deeds, now):
        """The deeds, applied, make what is behind them."""
        kept = entries
        for deed in deeds:
            behind = apply(kept, deed)
            keys = {*kept, *behind}
            self.assertEqual(changed_keys(kept, deed), tuple(sorted(key for key in keys if kept.get(key) != behind.get(key))))
            kept = behind
        self.assertEqual(kept, after)
        self.assertEqual(replay(((now, deeds),) if deeds else (), entries), after)

    def test_first_errors_change_nothing(self):
        self.done(KEPT, 50, ("nope now", error("unknown"), {}, ()), ("del", error("words"), {}, ()), ("del now ''", error("syntax"), {}, ()),
                  ("del now " + "k" * 41, error("size"), {}, ()), ("add now x", error("number"), {}, ()), ("set now t for 0", error("range"), {}, ()))

    def test_reading(self):
        self.done(KEPT, 50, ("get gone", NONE, {}, ()), ("len now", number(0), {}, ()), ("scount soon", number(1), {}, ()), ("size", number(2), {}, ()),
                  ("exists gone now soon ever", number(2), {}, ()), ("left now", number(-2), {}, ()), ("left soon", number(1), {}, ()),
                  ("keys *", texts("ever", "soon"), {}, ()), ("get now", NONE, {}, ()), ("get soon", error("kind"), {}, ()), ("getall gone ever", texts(None, "5"), {}, ()))
        self.done(KEPT, 49, ("len now", number(1), {}, ()), ("get now", error("kind"), {}, ()), ("left now", number(1), {}, ()))

    def test_takings(self):
        self.done(
            KEPT, 50, ("append now x", number(1), {"now": ("text", "x", None)}, (*gone("now"), "")), ("append soon x", error("kind"), {}, ()),
            ("append gone ''", number(0), {"gone": None}, gone("gone")), ("del now gone now soon x", number(1), {"now": None, "gone": None, "soon": None},
                                                                       (*gone("now", "gone"), "")),
            ("del now gone", number(0), {"now": None, "gone": None}, gone("now", "gone")), ("del gone now", number(0), {"now": None, "gone": None}, gone("gone", "now")),
            ("rename gone soon", error("missing"), {"gone": None}, gone("gone")), ("rename soon now", DONE, {"soon": None, "now": KEPT["soon"]}, (*gone("now"), "")),
            ("copy ever gone", number(1), {"gone": KEPT["ever"]}, (*gone("gone"), "")), ("persist now", number(0), {"now": None}, gone("now")),
            ("expireat gone 60", number(0), {"gone": None}, gone("gone")), ("expire now 60 old", number(0), {"now": None}, gone("now")),
            ("sunionto now gone soon", number(1), {"now": ("set", ("a",), None), "gone": None}, (*gone("now", "gone"), "")),
            ("sunionto soon gone now", number(0), {"soon": None, "gone": None, "now": None}, (*gone("gone", "now"), "")),
            ("sunionto ever gone ever", error("kind"), {"gone": None}, gone("gone")), ("setall now 1 gone 2 now 3", DONE, {
                "now": ("text", "3", None), "gone": ("text", "2", None)}, (*gone("now", "gone"), "")),
            ("zunionto gone 2 now soon", number(1), {"gone": ("sorted", ((1, "a"),), None), "now": None}, (*gone("gone", "now"), "")),
            ("add gone 3", number(3), {"gone": ("text", "3", None)}, (*gone("gone"), "")), ("setat now 0 x", error("missing"), {"now": None}, gone("now")),
            ("set now t old", NONE, {"now": None}, gone("now")), ("set now t new was", NONE, {"now": ("text", "t", None)}, (*gone("now"), "")),
            ("set gone t keep", DONE, {"gone": ("text", "t", None)}, (*gone("gone"), "")), ("append ever 1", number(2), {"ever": ("text", "51", None)}, ("",)))

    def test_no_deed_without_a_change(self):
        self.done(
            KEPT, 10, ("set ever 5", DONE, {}, ()), ("set ever 5 keep", DONE, {}, ()), ("set gone 7 keep", DONE, {}, ()), ("set gone 7", DONE, {
                "gone": ("text", "7", None)}, ("",)), ("set gone 7 until 20", DONE, {}, ()), ("add ever 0", number(5), {}, ()), ("sadd soon a", number(0), {}, ()),
            ("expireat now 50", number(1), {}, ()), ("expireat now 51", number(1), {"now": ("list", ("a",), 51)}, ("",)), ("del x", number(0), {}, ()),
            ("move now now left right", text("a"), {}, ()), ("rename now now", DONE, {}, ()), ("smove soon soon a", number(1), {}, ()),
            ("trim now 0 0", DONE, {}, ()), ("persist ever", number(0), {}, ()), ("setat now 0 a", DONE, {}, ()), ("grab x", NONE, {}, ()),
            ("sunionto soon soon", number(1), {"soon": ("set", ("a",), None)}, ("",)), ("setall ever 5", DONE, {}, ()), ("popl now 0", texts(), {}, ()))
        self.done({}, 10, ("clear", DONE, {}, ()), ("sunionto a b", number(0), {}, ()))

    def test_clear(self):
        everything = {key: None for key in KEPT}
        self.done(KEPT, 10, ("clear", DONE, everything, ("",)))
        self.done(KEPT, 20, ("clear", DONE, everything, (*gone("gone"), "")))
        self.done(KEPT, 51, ("clear", DONE, everything, (*gone("gone", "now", "soon"), "")))
        kept = {"b": ("text", "", 5), "a": ("text", "", 5), "c": ("text", "", 4)}
        self.done(kept, 5, ("clear", DONE, dict.fromkeys(kept), gone("c", "a", "b")))
        self.done(kept, 4, ("clear", DONE, dict.fromkeys(kept), (*gone("c"), "")))
        self.done(KEPT, 50, ("set x clear", DONE, {"x": ("text", "clear", None)}, ("",)), ("append ever clear", number(6), {"ever": ("text", "5clear", None)}, ("",)))

    def test_spans(self):
        self.done(
            KEPT, 50, ("set x t for 10", DONE, {"x": ("text", "t", 60)}, (words_of("set x t until 60"),)),
            ("set for for was for 1 new", NONE, {"for": ("text", "for", 51)}, (words_of("set for for was until 51 new"),)),
            ("set now t for 10 old", NONE, {"now": None}, gone("now")), ("set ever 5 for %d" % (END - 50), DONE, {"ever": ("text", "5", END)}, (
                words_of("set ever 5 until %d" % END),)), ("set now 5 for %d" % (END - 49), error("range"), {}, ()),
            ("set soon t was for 1", error("kind"), {}, ()), ("expire ever 10", number(1), {"ever": ("text", "5", 60)}, (words_of("expireat ever 60"),)),
            ("expire soon 1", number(1), {}, ()), ("expire ever -99 new", number(1), {"ever": ("text", "5", 0)}, (words_of("expireat ever 0 new"),)),
            ("expire now 5", number(0), {"now": None}, gone("now")), ("expire now %d" % (END - 49), error("range"), {}, ()),
            ("expire ever %d sooner" % (END - 50), number(1), {"ever": ("text", "5", END)}, (words_of("expireat ever %d sooner" % END),)),
            ("expire soon 0", number(1), {"soon": ("set", ("a",), 50)}, (words_of("expireat soon 50"),)))
        self.done(KEPT, END, ("set x t for 1", error("range"), {}, ()), ("expire ever 1", error("range"), {}, ()))
        self.done(KEPT, 0, ("set x t for %d" % END, DONE, {"x": ("text", "t", END)}, (words_of("set x t until %d" % END),)))

    def test_a_time_that_has_come(self):
        self.done(KEPT, 50, ("set x t until 50", DONE, {"x": ("text", "t", 50)}, ("",)), ("set soon t until 0", DONE, {"soon": ("text", "t", 0)}, ("",)),
                  ("expireat ever 3", number(1), {"ever": ("text", "5", 3)}, ("",)))
        _, entries, _ = do(("set", "x", "t", "until", "50"), KEPT, 50)
        self.done(entries, 50, ("get x", NONE, {}, ()), ("append x a", number(1), {"x": ("text", "a", None)}, (*gone("x"), "")))

    def test_a_full_store(self):
        self.done(full(3), 50, ("set x t", DONE, {"x": ("text", "t", None), "k002": None}, (*gone("k002"), "")),
                  ("setall x 1 y 2", DONE, {"x": ("text", "1", None), "y": ("text", "2", None), "k002": None, "k001": None}, (*gone("k002", "k001"), "")),
                  ("setall x 1 y 2 z 3 w 4", error("size"), {}, ()), ("set k002 t", DONE, {"k002": ("text", "t", None)}, (*gone("k002"), "")),
                  ("setall k001 1 x 2", DONE, {"k001": ("text", "1", None), "x": ("text", "2", None), "k002": None}, (*gone("k001", "k002"), "")),
                  ("setall k002 1 k001 2 k000 3 x 4", error("size"), {"k002": None, "k001": None, "k000": None}, gone("k002", "k001", "k000")),
                  ("copy k001 x", number(0), {"k001": None}, gone("k001")), ("del k000", number(0), {"k000": None}, gone("k000")),
                  ("set k100 t", DONE, {"k100": ("text", "t", None)}, ("",)), ("pushrold x a", number(0), {}, ()))
        self.done(full(3), 47, ("set x t", error("size"), {}, ()))
        self.done(full(3), 48, ("set x t", DONE, {"x": ("text", "t", None), "k002": None}, (*gone("k002"), "")), ("setall x 1 y 2", error("size"), {}, ()))
        self.done(full(0), END, ("set x t", error("size"), {}, ()), ("copy k000 x", error("size"), {}, ()), ("rename k000 x", DONE, {
            "k000": None, "x": ("text", "", None)}, ("",)), ("add x 1", error("size"), {}, ()), ("sadd x a", error("size"), {}, ()),
            ("sadd k000 a", error("kind"), {}, ()), ("set x t until 5", error("size"), {}, ()))
        kept = {**full(1), "k100": ("text", "x", None), "k101": ("list", ("a", "b"), None), "k102": ("list", ("c",), None)}
        self.done(kept, 50, ("move k101 x left left", text("a"), {"k101": ("list", ("b",), None), "x": ("list", ("a",), None), "k000": None}, (*gone("k000"), "")),
                  ("move k102 x left left", text("c"), {"k102": None, "x": ("list", ("c",), None)}, ("",)))
        self.done(kept, 49, ("move k101 x left left", error("size"), {}, ()))

    def test_what_a_command_names_is_not_taken_for_room(self):
        kept = {**full(2), "k001": ("text", "7", None)}
        self.done(kept, 50, ("setall x 1 k000 2", error("size"), {"k000": None}, gone("k000")))
        self.done({**full(2), "k100": ("text", "7", 60)}, 50, ("copy k100 x", number(1), {"x": ("text", "7", 60), "k001": None}, (*gone("k001"), "")))
        # What it makes itself has run out, too, but is named.
        self.done(full(1), 50, ("set x t until 5", DONE, {"x": ("text", "t", 5), "k000": None}, (*gone("k000"), "")))

    def test_refused(self):
        for value in not_commands():
            for entries, now in ((KEPT, 50), (None, None)):
                self.refused(InvalidCommand, None, do, value, entries, now)
                self.refused(InvalidCommand, None, do_block, (("size",), value), entries, now)
        for value in not_stores():
            for now in (50, None):
                self.refused(InvalidStore, None, do, ("nope",), value, now)
                self.refused(InvalidStore, None, do_block, (), value, now)
        for value in not_times():
            self.refused(InvalidTime, value, do, ("set", "ever", "x"), KEPT, value)
            self.refused(InvalidTime, value, do_block, (("set", "ever", "x"),), KEPT, value)
        blocks = [(), (("a", "b"),)]
        for value in values():
            if type(value) is not tuple or value not in blocks:
                self.refused(InvalidCommand, None, do_block, value, None, None)
        for value in not_commands():
            self.refused(InvalidCommand, None, do_block, (value,), KEPT, 50)
        self.refused(InvalidCommand, None, do_block, (("size",),) * 65, KEPT, 50)
        self.refused(InvalidCommand, None, do_block, [("size",)], KEPT, 50)


class Blocks(Case):
    def test_one_after_another(self):
        lines = ("add n 1", "get gone", "append gone a", "nope", "set x t for 5", "add n x", "add n 2", "del now soon", "expire n 9", "size", "set n")
        replies, entries, deeds = do_block(tuple(words_of(line) for line in lines), KEPT, 50)
        self.assertEqual(replies, (number(1), NONE, number(1), error("unknown"), DONE, error("number"), number(3), number(1), number(1), number(4),
                                   error("words")))
        self.assertEqual(entries, {"ever": KEPT["ever"], "gone": ("text", "a", None), "n": ("text", "3", 59), "x": ("text", "t", 55)})
        self.assertEqual(deeds, (words_of("add n 1"), ("gone", "gone"), words_of("append gone a"), words_of("set x t until 55"), words_of("add n 2"),
                                 ("gone", "now"), words_of("del now soon"), words_of("expireat n 59")))
        self.assertEqual(list(entries), sorted(entries))

    def test_none_and_many(self):
        told = do_block((), dict(reversed(KEPT.items())), 50)
        self.assertEqual((told, list(told[1])), (((), KEPT, ()), sorted(KEPT)))
        replies, entries, deeds = do_block((("add", "n", "1"),) * 64, {}, 0)
        self.assertEqual((replies[-1], entries, len(deeds)), (number(64), {"n": ("text", "64", None)}, 64))

    def test_as_single_commands(self):
        lines = ("set a 1 until 60", "copy a now", "expire now 0", "append now x", "sadd s a b", "smove s soon b", "clear", "set a 2")
        kept, replies, deeds = KEPT, [], ()
        for line in lines:
            reply, kept, made = do(words_of(line), kept, 50)
            replies.append(reply)
            deeds += made
        self.assertEqual(do_block(tuple(words_of(line) for line in lines), KEPT, 50), (tuple(replies), kept, deeds))


class Resolved(Case):
    def test_resolved(self):
        for line, now, told in (
            ("set k t", 5, "set k t"), ("set k t for 5", 5, "set k t until 10"), ("set for for for 5 was", 0, "set for for until 5 was"),
            ("set k t new for 5", 5, "set k t new until 10"), ("set k t until 5", 9, "set k t until 5"), ("expire k 7", 5, "expireat k 12"),
            ("expire k -7 later", 5, "expireat k 0 later"), ("expire k 0", 5, "expireat k 5"), ("expireat k 7 new", 5, "expireat k 7 new"), ("clear", 5, "clear"),
            ("del k k", 5, "del k k"), ("set k t for %d" % (END - 5), 5, "set k t until %d" % END), ("expire k %d" % (END - 5), 5, "expireat k %d" % END),
            ("zadd k 1 for", 5, "zadd k 1 for"), ("pushr for for", 0, "pushr for for"),
        ):
            self.assertEqual(resolved(words_of(line), now), words_of(told))
            self.assertIs(is_deed(resolved(words_of(line), now)), True)

    def test_refused(self):
        for value in not_commands():
            for now in (5, None):
                self.refused(InvalidCommand, None, resolved, value, now)
        for line in LINES:
            command = words_of(line)
            if command[0] not in WRITING:
                for now in (5, None):
                    self.refused(InvalidCommand, None, resolved, command, now)
            else:
                for value in not_times():
                    self.refused(InvalidTime, value, resolved, command, value)
        for command in BAD_COMMANDS:
            for now in (5, None):
                self.refused(InvalidCommand, None, resolved, command, now)
        for line, now in (("set k t for %d" % (END - 4), 5), ("expire k %d" % (END - 4), 5), ("set k t for 1", END), ("expire k 1 new", END)):
            self.refused(InvalidCommand, None, resolved, words_of(line), now)


class Applying(Case):
    def applied(self, *told):
        for line, changes in told:
            deed = words_of(line)
            given = copy.deepcopy(KEPT)
            after = {**KEPT, **changes}
            after = {key: after[key] for key in sorted(after) if after[key] is not None}
            behind = apply(given, deed)
            self.assertEqual((line, behind, list(behind)), (line, after, list(after)))
            self.assertIsNot(behind, given)
            self.assertEqual(changed_keys(given, deed), tuple(sorted(changes)))
            self.assertEqual(given, KEPT)

    def test_as_if_nothing_had_run_out(self):
        self.applied(
            ("gone ever", {"ever": None}), ("gone x", {}), ("out gone", {"gone": None}), ("out x", {}), ("append gone 1", {"gone": ("text", "71", 20)}),
            ("pushr now b", {"now": ("list", ("a", "b"), 50)}), ("popl now", {"now": None}), ("del gone ever x", {"gone": None, "ever": None}),
            ("clear", dict.fromkeys(KEPT)), ("rename gone now", {"gone": None, "now": KEPT["gone"]}), ("expireat gone 5", {"gone": ("text", "7", 5)}),
            ("persist gone", {"gone": ("text", "7", None)}), ("add now 1", {}), ("setat x 0 a", {}), ("set gone 7 until 20", {}), ("set ever 5", {}),
            ("sunionto z soon soon", {"z": ("set", ("a",), None)}), ("setall z 1 a 2 ever 5", {"a": ("text", "2", None), "z": ("text", "1", None)}),
            ("copy soon now over", {"now": KEPT["soon"]}), ("zunionto soon 1 soon", {"soon": ("sorted", ((1, "a"),), None)}))

    def test_never_more_keys_than_a_plain_store_has(self):
        for over in (0, 40):
            kept = full(over)
            self.assertEqual(apply(kept, ("set", "x", "t")), kept)
            self.assertEqual(changed_keys(kept, ("set", "x", "t")), ())
            self.assertEqual(len(apply(kept, ("rename", "k000", "x"))), 200)
            self.assertEqual(len(apply(apply(kept, ("out", "k000")), ("set", "x", "t"))), 200)

    def test_replay(self):
        line = ((5, (words_of("set a 1"), words_of("add a 2"))), (5, (("gone", "a"), words_of("pushr b x y"))), (END, (("out", "zz"), words_of("popl b"))))
        self.assertEqual(replay(line), {"b": ("list", ("y",), None)})
        self.assertEqual(replay(line[:1]), {"a": ("text", "3", None)})
        self.assertEqual(replay(()), {})
        self.assertEqual(replay((), None), {})
        given = dict(reversed(KEPT.items()))
        told = replay(line[:1], given)
        self.assertEqual((told, list(told)), ({**KEPT, "a": ("text", "3", None)}, ["a", *sorted(KEPT)]))
        told = replay((), given)
        self.assertEqual((told, list(told)), (KEPT, sorted(KEPT)))
        self.assertIsNot(told, given)
        self.assertEqual(given, KEPT)

    def test_refused(self):
        deeds = [("gone",), ("nope",), ("get", "a"), ("expire", "a", "5"), ("set", "a", "b", "for", "5"), ("set", "a"), ["clear"], *values()]
        for value in deeds:
            self.refused(InvalidOperation, None, apply, KEPT, value)
            self.refused(InvalidOperation, None, changed_keys, KEPT, value)
            self.refused(InvalidOperation, None, replay, ((5, (value,)),), KEPT)
            self.refused(InvalidOperation, None, replay, ((5, (("clear",), value)),), {"": None})
        for value in not_stores():
            for deed in (("clear",), ("nope",), None):
                self.refused(InvalidStore, None, apply, value, deed)
                self.refused(InvalidStore, None, changed_keys, value, deed)
            if value is not None:
                self.refused(InvalidStore, None, replay, (), value)
        for value in values():
            if value != () or type(value) is not tuple:
                self.refused(InvalidOperation, None, replay, value)
                self.refused(InvalidOperation, None, replay, value, {"": None})
        self.refused(InvalidOperation, None, replay, ((5, (("clear",),)), (4, (("clear",),))))
