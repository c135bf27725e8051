"""What the tests of the words of several stages have in common."""

from deedline.errors import InvalidCommand, InvalidStore
from deedline.plain.grammar import WORDS
from tests.helpers import ENTRIES, Case, not_commands, not_stores, not_texts

KINDS = ("list", "map", "set", "sorted", "text")


def text(told):
    return ("text", told)


def number(told):
    return ("number", told)


def error(code):
    return ("error", code)


def texts(*told):
    """The list reply of texts, numbers and None."""
    return ("list", tuple(("none",) if one is None else (("text" if type(one) is str else "number"), one) for one in told))


DONE, NONE = ("done",), ("none",)


def words_of(line):
    """The command of a line; `''` stands for the empty text."""
    return tuple("" if word == "''" else word for word in line.split(" "))


class PlainCase(Case):
    """A test of `do`, the function of a stage, whose words are `words`."""

    def lines(self, call, entries, *told):
        """For each line of a command the reply and the changes, None for a key that is dropped."""
        for line, reply, changes in told:
            after = {**entries, **changes}
            after = {key: after[key] for key in after if after[key] is not None}
            self.does(call, words_of(line), entries, reply, after)

    def asked_kinds(self, call, kinds, *told):
        """For each line of a command, with the keys whose kinds are asked: "kind" comes ahead of all else."""
        for line, keys in told:
            command = words_of(line)
            for kind in KINDS:
                for until in (None, 7):
                    for asked in keys.split(" ") if keys else ():
                        entries = {asked: (*ENTRIES[kind][:2], until)}
                        for other in KINDS:
                            more = {key: ENTRIES[other] for key in keys.split(" ") if other in kinds and key != asked}
                            reply, after = call(command, {**more, **entries})
                            self.assertEqual(reply == error("kind"), kind not in kinds, (command, entries))
                            if kind not in kinds:
                                self.assertEqual(after, {**more, **entries})
            self.no_other_kinds(call, command, keys.split(" "))
            if not keys:
                for kind in KINDS:
                    entries = {key: ENTRIES[kind] for key in command[1:] if 1 <= len(key) <= 40}
                    self.assertNotEqual(call(command, entries)[0], error("kind"))

    def no_other_kinds(self, call, command, keys):
        """What else a command names is no key whose kind is asked: its word, members and texts."""
        names = {name for name in command if 1 <= len(name) <= 40 and name not in keys}
        for kind in KINDS:
            self.assertNotEqual(call(command, {name: ENTRIES[kind] for name in names})[0], error("kind"), command)

    def refusing(self, call, words, *good):
        """What the function refuses, and in what order."""
        for value in not_commands():
            for entries in ({}, None, {"a": None}):
                self.refused(InvalidCommand, None, call, value, entries)
        for value in not_stores():
            for command in (*[words_of(line) for line in good], ("nope",), ("get", "")):
                self.refused(InvalidStore, None, call, command, value)
        wrong = [("nope",), ("nope", "a"), *[(word,) for word in words], *[(word, "") for word in words]]
        wrong += [(word, "k" * 41, "a", "b") for word in words] + [(word, *["a"] * 63) for word in ("get", "smove", "hget", "trim")]
        wrong += [words_of(line) for line in LINES if line.split(" ")[0] not in words]
        self.assertTrue(set(words) <= set(WORDS))
        for command in wrong:
            self.refused(InvalidCommand, None, call, command, {"a": ENTRIES["text"]})
        for line in good:
            for value in not_texts():
                self.refused(InvalidCommand, None, call, (*words_of(line)[:-1], value), {})


# A right command of each word.
LINES = (
    "add k 1", "append k a", "at k 0", "clear", "copy a b", "del k", "drop k 0 a", "exists k", "expire k 1", "expireat k 1",
    "get k", "getall k", "grab k", "hadd k f 1", "hcount k", "hdel k f", "hfields k", "hget k f", "hhas k f", "hmany k f",
    "hpairs k", "hset k f a", "htexts k", "insert k after a b", "keys *", "kind k", "left k", "len k", "length k",
    "move a b left right", "part k 0 1", "persist k", "popl k", "popr k", "pushl k a", "pushlold k a", "pushr k a",
    "pushrold k a", "range k 0 1", "rename a b", "renamenew a b", "sadd k a", "scan 0", "scount k", "sdiff k", "sdiffto a b",
    "set k a", "setall k a", "setat k 0 a", "shas k a", "sinter k", "sinterto a b", "size", "smembers k", "smove a b c",
    "spop k", "srem k a", "sunion k", "sunionto a b", "trim k 0 1", "zadd k 1 a", "zbetween k - +", "zdrop k 0 1",
    "zinterto a 1 b", "zpop k least", "zraise k 1 a", "zrange k 0 1", "zrank k a", "zrem k a", "zscore k a", "zsize k",
    "zunionto a 1 b",
)
