"""Long runs of commands of all kinds, at times that rise, beside a plain model."""

import collections
import copy

from deedline.plain.grammar import WORDS, first_error
from deedline.plain.keys import do_keys
from deedline.plain.sorts import do_sorted
from deedline.plain.store import do, do_block, has_run_out, is_deed, is_line, replay, shown
from deedline.shape.entries import is_store
from deedline.store.room import run_out
from tests.commands import WORDS_OF_KINDS, Maker
from tests.helpers import Case, chance
from tests.model_times import Timed
from tests.rows import WRITING

MOST_WORDS = [word for word in WORDS if word != "clear"]


class Untimed(Case):
    def test_sorted_sets_and_keys(self):
        seen = collections.Counter()
        for seed in range(16):
            pick = chance(seed)
            maker, model, entries = Maker(pick, keys=2), Timed(), {}
            words = WORDS_OF_KINDS["sorted"].split() * 3 + [word for word in WORDS_OF_KINDS["keys"].split() if word not in ("clear", "left", "expire")]
            for _ in range(400):
                command = maker.command(pick.choice(words))
                self.assertIsNone(first_error(command), command)
                before = copy.deepcopy(entries)
                call = do_sorted if command[0] in WORDS_OF_KINDS["sorted"] and command[0][0] == "z" else do_keys
                reply, after = call(command, entries)
                self.assertEqual(reply, model.reply(command), (command, before))
                self.assertEqual((after, list(after)), (model.plain(), sorted(after)), (command, before))
                self.assertEqual(entries, before)
                seen[command[0], reply[1] if reply[0] == "error" else ""] += 1
                entries = after
        for word in words:
            self.assertTrue(seen[word, ""], word)
        for word in ("zraise", "zunionto", "zinterto"):
            self.assertTrue(seen[word, "range"], word)


class AtTimes(Case):
    def check(self, entries, reply, deeds, command, now, model):
        """One command at a time, beside the model; returns the entries behind it."""
        told, told_deeds = model.call(command, now)
        self.assertEqual(reply, told, (command, now))
        self.assertEqual(deeds, told_deeds, (command, now))
        self.assertEqual((entries, list(entries)), (model.plain(), sorted(entries)), (command, now))
        self.assertTrue(all(is_deed(deed) for deed in deeds))
        self.assertTrue(command[0] in WRITING or deeds == ())

    def run_of(self, seed, turns, words, seen, **options):
        pick = chance(seed)
        maker, model, entries, now, units, places = Maker(pick, **options), Timed(), {}, 0, [], [({}, 0)]
        for _ in range(turns):
            now += pick.choice((0, 0, 0, 1, 2, 9))
            command = maker.command(pick.choice(words))
            if command[0] in ("expireat", "set") and pick.random() < 0.8:
                soon = {"until": str(now + pick.randrange(9)), "for": str(pick.randrange(1, 9))}
                command = tuple(soon.get(command[at - 1], text) if at > 3 else text for at, text in enumerate(command))
                if command[0] == "expireat":
                    command = (*command[:2], str(now + pick.randrange(-2, 9)), *command[3:])
            before = copy.deepcopy(entries)
            reply, after, deeds = do(command, entries, now)
            self.check(after, reply, deeds, command, now, model)
            self.assertEqual(entries, before)
            self.assertTrue(deeds or after == before)
            seen[command[0], reply[0] if reply[0] != "error" else reply[1], bool(deeds), deeds[:1] and deeds[0][0] == "gone"] += 1
            entries = after
            if deeds:
                units.append((now, deeds))
                places.append((after, now))
            if pick.random() < 0.1:
                self.assertEqual(shown(entries, now), {key: entry for key, entry in entries.items() if not has_run_out(entry, now)})
                self.assertEqual(set(run_out(entries, now)), set(model.over(now)))
        self.assertIs(is_store(entries), True)
        self.line(tuple(units), places)

    def line(self, units, places):
        """The line, replayed to each place, makes what was kept there."""
        self.assertIs(is_line(units), True)
        self.assertEqual(replay(units), places[-1][0])
        for place in range(0, len(units) + 1, 7):
            kept = replay(units[:place])
            self.assertEqual((kept, list(kept)), (places[place][0], sorted(kept)))
            self.assertEqual(replay(units[place:], kept), places[-1][0])
            if place:
                self.assertEqual(replay(units[place - 1:place], places[place - 1][0]), kept)

    def test_all_words(self):
        seen = collections.Counter()
        for seed in range(30):
            self.run_of(seed, 300, [*MOST_WORDS, "set", "expire", "expireat", "set"], seen, keys=2)
        for seed in range(30, 36):
            self.run_of(seed, 300, list(WORDS), seen, keys=1, astray=0.1)
        self.assertEqual({word for word, _, _, _ in seen}, set(WORDS))
        for word in set(WRITING):
            self.assertTrue(any(key[0] == word and key[2] for key in seen), word)
            self.assertTrue(any(key[0] == word and not key[2] for key in seen), word)

    def test_a_full_store(self):
        seen = collections.Counter()
        for seed in range(4):
            pick = chance(seed)
            model = Timed({"x%d" % at: ("text", "", pick.choice((None, None, None, 30, 60, 90))) for at in range(195)})
            entries, now = model.plain(), 0
            for turn in range(150):
                now += pick.choice((0, 1))
                names = ["x%d" % pick.randrange(240) for _ in range(5)]
                command = pick.choice((("setall", *[text for name in names for text in (name, "1")]), ("set", names[0], "2", "until", str(now + pick.randrange(-3, 90))),
                                       ("copy", names[0], names[1], "over"), ("del", names[0]), ("sadd", names[0], "a"), ("rename", names[0], names[1]),
                                       ("sunionto", names[2], names[0]), ("smove", names[0], names[1], "a"), ("append", names[3], "1"), ("get", names[0])))
                before = copy.deepcopy(entries)
                reply, entries, deeds = do(command, entries, now)
                self.check(entries, reply, deeds, command, now, model)
                self.assertLessEqual(len(entries), 200)
                self.assertEqual(replay(((now, deeds),) if deeds else (), before), entries)
                seen[reply == ("error", "size"), len([deed for deed in deeds if deed[0] == "gone"]) > 1] += 1
        self.assertTrue(seen[True, False] and seen[False, True])

    def test_blocks(self):
        for seed in range(10):
            pick = chance(seed)
            maker, entries, now = Maker(pick, keys=2), {}, 0
            for _ in range(25):
                now += pick.choice((0, 3, 20))
                commands = tuple(maker.command(pick.choice(MOST_WORDS)) for _ in range(pick.randrange(9)))
                commands += tuple(("set", "t%d" % at, "7", "for", "5") for at in range(pick.randrange(3)))
                told, kept, made = [], entries, ()
                for command in commands:
                    reply, kept, deeds = do(command, kept, now)
                    told.append(reply)
                    made += deeds
                before = copy.deepcopy(entries)
                self.assertEqual(do_block(commands, entries, now), (tuple(told), kept, made))
                self.assertEqual(entries, before)
                entries = kept

    def test_what_a_command_does_hangs_on_its_keys_alone(self):
        # [15.3]: with other keys beside them, and at another time between which nothing runs out.
        pick = chance(153)
        maker, model = Maker(pick, keys=2), Timed()
        words = [word for word in MOST_WORDS if word not in ("keys", "size", "scan")]
        for turn in range(500):
            command = maker.command(pick.choice(words))
            entries = model.plain()
            named = {key: entry for key, entry in entries.items() if key in command}
            reply, after, deeds = do(command, entries, 50)
            one, few, same = do(command, named, 50)
            self.assertEqual((one, same), (reply, deeds), command)
            self.assertEqual({key: entry for key, entry in after.items() if key in command}, few)
            self.assertEqual({key: entry for key, entry in after.items() if key not in command},
                             {key: entry for key, entry in entries.items() if key not in command})
            if command[0] not in ("left", "expire") and "for" not in command[3:]:
                self.assertEqual(do(command, entries, 59), (reply, after, deeds))
            model = Timed(after)
            for key in model.kept:
                if pick.random() < 0.1:
                    model.kept[key][2] = pick.choice((None, 40, 50, 60))
            model = Timed({key: entry for key, entry in model.plain().items() if entry[2] not in range(51, 60)})
