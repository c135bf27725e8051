"""A plain model of the store: Python strings, lists, sets and dicts, changed in place."""

import copy
import re

from tests.helpers import LEAST, MOST, SIGNS
from tests.rows import number

EMPTY = {"list": list, "set": set, "sorted": dict, "map": dict}


class Wrong(Exception):
    """A command replies with an error."""


def hash_of(text):
    told = 0
    for sign in text:
        told = (told * 33 + ord(sign)) % 65536
    return told


def spot_of(text):
    return int("{:016b}".format(hash_of(text))[::-1], 2)


def does_fit(pattern, text):
    """Whether a simple pattern, without classes, fits a text."""
    signs = [{"*": ".*", "?": "."}.get(sign, re.escape(sign)) for sign in pattern]
    return re.fullmatch("".join(signs), text, re.DOTALL) is not None


def thawed(kind, value):
    if kind == "text":
        return value
    if kind == "sorted":
        return {member: score for score, member in value}
    return EMPTY[kind](value)


def frozen(kind, value):
    if kind == "text":
        return value
    if kind == "list":
        return tuple(value)
    if kind == "sorted":
        return tuple(sorted((score, member) for member, score in value.items()))
    return tuple(sorted(value.items() if kind == "map" else value))


def listed(things):
    """The list reply of texts, numbers and None."""
    return ("list", tuple(one(thing) for thing in things))


def one(thing):
    if thing is None:
        return ("none",)
    return ("text", thing) if isinstance(thing, str) else ("number", int(thing))


def cut(row, first, last):
    """The members of a row from the first to the last, both counted from either end."""
    first, last = int(first), int(last)
    low = first + len(row) if first < 0 else first
    high = last + len(row) if last < 0 else last
    return [member for at, member in enumerate(row) if low <= at <= high]


def whole(told):
    if not LEAST <= told <= MOST:
        raise Wrong("range")
    return told


def of_number(text):
    if number(text) is None:
        raise Wrong("number")
    return number(text)


class Model:
    """What is kept, as lists [kind, value, until] that are changed in place."""

    def __init__(self, entries=None):
        self.kept = {key: [kind, thawed(kind, value), until] for key, (kind, value, until) in (entries or {}).items()}

    def plain(self):
        return {key: (kind, frozen(kind, value), until) for key, (kind, value, until) in sorted(self.kept.items())}

    def reply(self, command):
        """Does a right command as if nothing had run out."""
        word, *texts = command
        before = copy.deepcopy(self.kept)
        try:
            told = getattr(self, "do_" + word)(*texts)
            for key in [key for key, (kind, value, _) in self.kept.items() if kind != "text" and not value]:
                del self.kept[key]
            if any(len(value) > 200 for _, value, _ in self.kept.values()):
                raise Wrong("size")
        except Wrong as wrong:
            self.kept = before
            return ("error", str(wrong))
        return told

    def look(self, kind, *keys):
        """The values of some keys, None for each that is absent."""
        if any(self.kept[key][0] != kind for key in keys if key in self.kept):
            raise Wrong("kind")
        return [self.kept[key][1] if key in self.kept else None for key in keys]

    def make(self, kind, key):
        """The value of a key, made if it is absent."""
        return self.kept.setdefault(key, [kind, EMPTY[kind](), None])[1]

    def do_get(self, key):
        return one(self.look("text", key)[0])

    def do_set(self, key, text, *options):
        elder = self.kept.get(key)
        told = ("done",)
        if "was" in options:
            told = one(self.look("text", key)[0])
        if "new" in options and elder or "old" in options and not elder:
            return told if "was" in options else ("none",)
        until = int(options[options.index("until") + 1]) if "until" in options else None
        self.kept[key] = ["text", text, elder[2] if "keep" in options and elder else until]
        return told

    def do_append(self, key, more):
        text = self.look("text", key)[0]
        if more:
            self.kept.setdefault(key, ["text", "", None])[1] += more
        return one(len((text or "") + more))

    def do_length(self, key):
        return one(len(self.look("text", key)[0] or ""))

    def do_part(self, key, first, last):
        return one("".join(cut(self.look("text", key)[0] or "", first, last)))

    def do_add(self, key, more):
        text = self.look("text", key)[0]
        total = whole((0 if text is None else of_number(text)) + int(more))
        self.kept.setdefault(key, ["text", "", None])[1] = str(total)
        return one(total)

    def do_grab(self, key):
        told = self.do_get(key)
        self.kept.pop(key, None)
        return told

    def do_getall(self, *keys):
        return listed(self.kept[key][1] if self.kept.get(key, [0])[0] == "text" else None for key in keys)

    def do_setall(self, *texts):
        for key, text in zip(texts[::2], texts[1::2]):
            self.kept[key] = ["text", text, None]
        return ("done",)

    def push(self, key, texts, is_left, is_old):
        row = self.look("list", key)[0]
        if row is None and is_old:
            return one(0)
        row = self.make("list", key)
        for text in texts:
            row.insert(0 if is_left else len(row), text)
        return one(len(row))

    def do_pushl(self, key, *texts):
        return self.push(key, texts, True, False)

    def do_pushr(self, key, *texts):
        return self.push(key, texts, False, False)

    def do_pushlold(self, key, *texts):
        return self.push(key, texts, True, True)

    def do_pushrold(self, key, *texts):
        return self.push(key, texts, False, True)

    def pop(self, key, counts, end):
        row = self.look("list", key)[0]
        if row is None:
            return ("none",)
        texts = [row.pop(end) for _ in range(min(len(row), int(counts[0]) if counts else 1))]
        return listed(texts) if counts else one(texts[0])

    def do_popl(self, key, *counts):
        return self.pop(key, counts, 0)

    def do_popr(self, key, *counts):
        return self.pop(key, counts, -1)

    def do_len(self, key):
        return one(len(self.look("list", key)[0] or ()))

    def do_at(self, key, index):
        return one(dict(self.indexed(key)).get(int(index)))

    def indexed(self, key):
        """Each member with both its indices."""
        row = self.look("list", key)[0] or []
        return [*enumerate(row), *[(at - len(row), text) for at, text in enumerate(row)]]

    def do_setat(self, key, index, text):
        row = self.look("list", key)[0]
        if row is None:
            raise Wrong("missing")
        if int(index) not in dict(self.indexed(key)):
            raise Wrong("place")
        row[int(index)] = text
        return ("done",)

    def do_range(self, key, first, last):
        return listed(cut(self.look("list", key)[0] or [], first, last))

    def do_trim(self, key, first, last):
        row = self.look("list", key)[0]
        if row is not None:
            row[:] = cut(row, first, last)
        return ("done",)

    def do_insert(self, key, where, known, text):
        row = self.look("list", key)[0]
        if row is None or known not in row:
            return one(0 if row is None else -1)
        row.insert(row.index(known) + (where == "after"), text)
        return one(len(row))

    def do_drop(self, key, count, text):
        row, count, gone = self.look("list", key)[0] or [], int(count), 0
        while text in row and (count == 0 or gone < abs(count)):
            if count < 0:
                row.reverse()
            row.remove(text)
            if count < 0:
                row.reverse()
            gone += 1
        return one(gone)

    def do_move(self, key, other, side, other_side):
        row, _ = self.look("list", key, other)
        if row is None:
            return ("none",)
        text = row.pop(0 if side == "left" else -1)
        others = self.make("list", other)
        others.insert(0 if other_side == "left" else len(others), text)
        return one(text)

    def do_sadd(self, key, *texts):
        members = self.look("set", key)[0] or set()
        told = len(set(texts) - members)
        self.make("set", key).update(texts)
        return one(told)

    def do_srem(self, key, *texts):
        members = self.look("set", key)[0] or set()
        told = len(members & set(texts))
        members -= set(texts)
        return one(told)

    def do_shas(self, key, *texts):
        members = self.look("set", key)[0] or set()
        return listed(text in members for text in texts)

    def do_smembers(self, key):
        return listed(sorted(self.look("set", key)[0] or ()))

    def do_scount(self, key):
        return one(len(self.look("set", key)[0] or ()))

    def do_smove(self, key, other, text):
        members, _ = self.look("set", key, other)
        if text not in (members or ()):
            return one(0)
        members.remove(text)
        (members if key == other else self.make("set", other)).add(text)
        return one(1)

    def do_spop(self, key, *counts):
        members = self.look("set", key)[0] or set()
        texts = sorted(members)[:int(counts[0]) if counts else 1]
        members.difference_update(texts)
        return listed(texts) if counts else one(texts[0] if texts else None)

    def together(self, word, keys):
        first, *others = [set(members or ()) for members in self.look("set", *keys)]
        made = {"sinter": first.intersection, "sunion": first.union, "sdiff": first.difference}[word](*others)
        if len(made) > 1000:
            raise Wrong("size")
        return made

    def do_sinter(self, *keys):
        return listed(sorted(self.together("sinter", keys)))

    def do_sunion(self, *keys):
        return listed(sorted(self.together("sunion", keys)))

    def do_sdiff(self, *keys):
        return listed(sorted(self.together("sdiff", keys)))

    def place(self, key, kind, made):
        self.kept[key] = [kind, made, None]
        return one(len(made))

    def do_sinterto(self, key, *keys):
        return self.place(key, "set", self.together("sinter", keys))

    def do_sunionto(self, key, *keys):
        return self.place(key, "set", self.together("sunion", keys))

    def do_sdiffto(self, key, *keys):
        return self.place(key, "set", self.together("sdiff", keys))

    def do_hset(self, key, *texts):
        self.look("map", key)
        fields = self.make("map", key)
        many = len(fields)
        fields.update(zip(texts[::2], texts[1::2]))
        return one(len(fields) - many)

    def do_hget(self, key, field):
        return one((self.look("map", key)[0] or {}).get(field))

    def do_hmany(self, key, *fields):
        return listed((self.look("map", key)[0] or {}).get(field) for field in fields)

    def do_hdel(self, key, *fields):
        known = self.look("map", key)[0] or {}
        return one(sum(known.pop(field, None) is not None for field in fields))

    def do_hhas(self, key, field):
        return one(field in (self.look("map", key)[0] or {}))

    def do_hcount(self, key):
        return one(len(self.look("map", key)[0] or {}))

    def do_hfields(self, key):
        return listed(sorted(self.look("map", key)[0] or {}))

    def do_htexts(self, key):
        return listed(text for _, text in sorted((self.look("map", key)[0] or {}).items()))

    def do_hpairs(self, key):
        return listed(text for pair in sorted((self.look("map", key)[0] or {}).items()) for text in pair)

    def do_hadd(self, key, field, more):
        fields = self.look("map", key)[0] or {}
        total = whole(of_number(fields.get(field, "0")) + int(more))
        self.make("map", key)[field] = str(total)
        return one(total)


assert set("az09 ~") <= set(SIGNS)
