"""Long runs of commands, one after another, beside a plain model."""

import collections
import copy

from deedline.plain.grammar import first_error
from deedline.plain.lists import do_list
from deedline.plain.maps import do_map
from deedline.plain.sets import do_set
from deedline.plain.texts import do_text
from deedline.shape.entries import is_store
from tests.commands import WORDS_OF_KINDS, Maker
from tests.helpers import Case, chance
from tests.model import Model

CALLS = {"text": do_text, "list": do_list, "set": do_set, "map": do_map}


class Runs(Case):
    def run_of(self, seed, kinds, turns, seen, **options):
        """A run of the words of some kinds; counts which words gave which errors."""
        pick = chance(seed)
        maker, model, entries = Maker(pick, **options), Model(), {}
        words = [(word, kind) for kind in kinds for word in WORDS_OF_KINDS[kind].split()]
        for _ in range(turns):
            word, kind = pick.choice(words)
            command = maker.command(word)
            if "for" in command[3:]:
                continue
            self.assertIsNone(first_error(command), command)
            before = copy.deepcopy(entries)
            reply, after = CALLS[kind](command, entries)
            told = model.reply(command)
            self.assertEqual(reply, told, (command, before))
            self.assertEqual(after, model.plain(), (command, before))
            self.assertEqual(list(after), sorted(after))
            self.assertEqual(entries, before)
            seen[word, reply[1] if reply[0] == "error" else "", after != before] += 1
            until = pick.choice((None, 5))
            entries = {key: after[key] for key in sorted(after, reverse=pick.random() < 0.5)}
            if entries and pick.random() < 0.05:
                key = pick.choice(sorted(entries))
                entries[key] = (*entries[key][:2], until)
                model.kept[key][2] = until
        self.assertIs(is_store(entries), True)

    def test_texts_and_lists_and_sets_and_maps(self):
        seen = collections.Counter()
        for seed in range(24):
            self.run_of(seed, ("text", "list", "set", "map"), 400, seen)
        for kind in CALLS:
            for seed in range(6):
                self.run_of(100 + seed, (kind,), 300, seen, keys=2, astray=0.01)
        words = [word for kind in CALLS for word in WORDS_OF_KINDS[kind].split()]
        self.assertEqual({word for word, _, _ in seen}, set(words))
        for code, told in (("kind", set(words) - {"getall", "setall"}), ("number", {"add", "hadd"}), ("range", {"add", "hadd"}),
                           ("missing", {"setat"}), ("place", {"setat"}), ("size", {"append"})):
            self.assertLessEqual(told, {word for word, error, _ in seen if error == code}, code)

    def test_lists_that_grow(self):
        seen = collections.Counter()
        for seed in range(3):
            pick = chance(seed)
            model, entries = Model(), {}
            for _ in range(320):
                word = pick.choice(("pushl", "pushr", "pushr", "pushlold", "popl", "sadd", "hset", "sunionto", "drop", "insert"))
                texts = [str(pick.randrange(300)) for _ in range(pick.randrange(1, 30) * 2)]
                command = {"popl": ("popl", "l", str(pick.randrange(9))), "sadd": ("sadd", pick.choice(("s", "s", "r")), *texts),
                           "hset": ("hset", "m", *texts), "sunionto": ("sunionto", "u", "s", "r"), "drop": ("drop", "l", "0", texts[0]),
                           "insert": ("insert", "l", "before", *texts[:2])}.get(word, (word, "l", *texts))
                kind = {"s": "set", "h": "map"}.get(word[0], "list")
                reply, entries = CALLS[kind](command, entries)
                self.assertEqual(reply, model.reply(command))
                self.assertEqual(entries, model.plain())
                seen[word, reply == ("error", "size")] += 1
        for word in ("pushl", "pushr", "pushlold", "sadd", "hset", "sunionto"):
            self.assertTrue(seen[word, True] and seen[word, False], word)
