"""The plain model, with sorted sets, and with keys and times."""

import copy

from deedline.plain.grammar import keys_of
from tests.model import Model, Wrong, does_fit, listed, one, spot_of, whole
from tests.rows import WRITING, number


def is_over(bound, worth, is_low, edge):
    """Whether a bound lets a score or a text on its side; `edge` reads what stands in it."""
    if bound in ("-", "+"):
        return (bound == "-") == is_low
    told = edge(bound)
    if worth == told:
        return not bound.startswith("(")
    return (worth > told) == is_low


def lies(worth, low, high, edge):
    return is_over(low, worth, True, edge) and is_over(high, worth, False, edge)


def score_edge(bound):
    return int(bound.lstrip("("))


def text_edge(bound):
    return bound[1:]


def told_pairs(scores, low, high, options):
    """The pairs (member, score) that a range of a sorted set tells."""
    row = sorted(scores.items(), key=lambda pair: (pair[1], pair[0]))
    if "back" in options:
        row.reverse()
    if "byscore" in options:
        row = [pair for pair in row if lies(pair[1], low, high, score_edge)]
    elif "bytext" in options:
        row = [pair for pair in row if lies(pair[0], low, high, text_edge)]
    else:
        first, last = int(low), int(high)
        places = range(first + len(row) if first < 0 else first, (last + len(row) if last < 0 else last) + 1)
        row = [pair for at, pair in enumerate(row) if at in places]
    if "skip" in options:
        at = options.index("skip")
        row = [pair for place, pair in enumerate(row) if int(options[at + 1]) <= place]
        row = [pair for place, pair in enumerate(row) if place < int(options[at + 3])]
    return row


def with_scores(row):
    return listed(thing for pair in row for thing in pair)


class Timed(Model):
    """The model of all words. `now` is the time that `left` looks at."""

    now = None

    def do_zadd(self, key, *texts):
        options = []
        while number(texts[0]) is None:
            options.append(texts[0])
            texts = texts[1:]
        self.look("sorted", key)
        scores, made, changed = self.make("sorted", key), 0, 0
        for score, member in zip(map(int, texts[::2]), texts[1::2]):
            if member not in scores:
                if "old" not in options:
                    scores[member] = score
                    made += 1
            elif "new" not in options:
                elder = scores[member]
                scores[member] = max(elder, score) if "up" in options else min(elder, score) if "down" in options else score
                changed += scores[member] != elder
        return one(made + changed if "changed" in options else made)

    def do_zraise(self, key, more, member):
        scores = self.look("sorted", key)[0] or {}
        total = whole(scores.get(member, 0) + int(more))
        self.make("sorted", key)[member] = total
        return one(total)

    def do_zrem(self, key, *members):
        scores = self.look("sorted", key)[0] or {}
        return one(sum(scores.pop(member, None) is not None for member in members))

    def do_zscore(self, key, *members):
        return listed((self.look("sorted", key)[0] or {}).get(member) for member in members)

    def do_zsize(self, key):
        return one(len(self.look("sorted", key)[0] or {}))

    def do_zbetween(self, key, low, high):
        return one(sum(lies(score, low, high, score_edge) for score in (self.look("sorted", key)[0] or {}).values()))

    def do_zrank(self, key, member, *options):
        scores = self.look("sorted", key)[0] or {}
        if member not in scores:
            return ("none",)
        mine = (scores[member], member)
        others = [(score, other) for other, score in scores.items()]
        return one(sum(other > mine if options else other < mine for other in others))

    def do_zrange(self, key, low, high, *options):
        row = told_pairs(self.look("sorted", key)[0] or {}, low, high, options)
        return with_scores(row) if "scores" in options else listed(member for member, _ in row)

    def do_zdrop(self, key, low, high, *options):
        scores = self.look("sorted", key)[0] or {}
        gone = told_pairs(scores, low, high, options)
        for member, _ in gone:
            del scores[member]
        return one(len(gone))

    def do_zpop(self, key, end, count="1"):
        scores = self.look("sorted", key)[0] or {}
        gone = told_pairs(scores, "0", "-1", ("back",) if end == "greatest" else ())[:int(count)]
        for member, _ in gone:
            del scores[member]
        return with_scores(gone)

    def join(self, key, count, texts, is_all):
        keys, options = texts[:int(count)], texts[int(count):]
        weights = [1] * len(keys)
        if "weights" in options:
            at = options.index("weights") + 1
            weights = [int(text) for text in options[at:at + len(keys)]]
        rows = []
        for other, weight in zip(keys, weights):
            kind, value, _ = self.kept.get(other, ("set", (), None))
            if kind not in ("set", "sorted"):
                raise Wrong("kind")
            scores = dict.fromkeys(value, 1) if kind == "set" else value
            rows.append({member: score * weight for member, score in scores.items()})
        made = {}
        for member in {member for row in rows for member in row}:
            scores = [row[member] for row in rows if member in row]
            if not is_all or len(scores) == len(rows):
                join = min if "least" in options else max if "greatest" in options else sum
                made[member] = whole(join(scores))
        return self.place(key, "sorted", made)

    def do_zunionto(self, key, count, *texts):
        return self.join(key, count, texts, False)

    def do_zinterto(self, key, count, *texts):
        return self.join(key, count, texts, True)

    def do_del(self, *keys):
        return one(sum(self.kept.pop(key, None) is not None for key in keys))

    def do_exists(self, *keys):
        return one(sum(key in self.kept for key in keys))

    def do_kind(self, key):
        return one(self.kept[key][0] if key in self.kept else None)

    def do_rename(self, key, other):
        if key not in self.kept:
            raise Wrong("missing")
        self.kept[other] = self.kept.pop(key)
        return ("done",)

    def do_renamenew(self, key, other):
        if key in self.kept and other in self.kept:
            return one(0)
        self.do_rename(key, other)
        return one(1)

    def do_copy(self, key, other, *over):
        if key not in self.kept or key == other or other in self.kept and not over:
            return one(0)
        self.kept[other] = copy.deepcopy(self.kept[key])
        return one(1)

    def do_expireat(self, key, told, option=""):
        if key not in self.kept:
            return one(0)
        until, end = self.kept[key][2], int(told)
        endless = float("inf") if until is None else until
        holds = {"": True, "new": until is None, "old": until is not None, "later": endless < end, "sooner": endless > end}
        if holds[option]:
            self.kept[key][2] = end
        return one(holds[option])

    def do_expire(self, key, span, *option):
        end = max(0, self.now + int(span))
        if end > 10 ** 15:
            raise Wrong("range")
        return self.do_expireat(key, str(end), *option)

    def do_left(self, key):
        until = self.kept[key][2] if key in self.kept else None
        return one(-2 if key not in self.kept else -1 if until is None else until - self.now)

    def do_persist(self, key):
        until = self.kept[key][2] if key in self.kept else None
        if until is not None:
            self.kept[key][2] = None
        return one(until is not None)

    def do_keys(self, pattern):
        return listed(key for key in sorted(self.kept) if does_fit(pattern, key))

    def do_size(self):
        return one(len(self.kept))

    def do_clear(self):
        self.kept.clear()
        return ("done",)

    def do_scan(self, cursor, *options):
        told = dict(zip(options[::2], options[1::2]))
        here = sorted((spot_of(key), key) for key in self.kept if spot_of(key) >= int(cursor))
        looked = here[:int(told.get("count", "10"))]
        while len(looked) < len(here) and here[len(looked)][0] == looked[-1][0]:
            looked.append(here[len(looked)])
        keys = [key for _, key in looked if does_fit(told.get("match", "*"), key)]
        keys = [key for key in keys if told.get("kind", self.kept[key][0]) == self.kept[key][0]]
        cursor = looked[-1][0] + 1 if len(looked) < len(here) else 0
        return ("list", (one(str(cursor)), listed(keys)))

    def over(self, now):
        """The keys that have run out, in the order of running out."""
        return [key for _, key in sorted((until, key) for key, (_, _, until) in self.kept.items()
                                         if until is not None and until <= now)]

    def call(self, command, now):
        """Does a command without a first error at a time, and returns the reply and the deeds."""
        self.now, word, deed, deeds = now, command[0], list(command), []
        end = 0
        if word == "expire":
            end = max(0, now + int(command[2]))
            deed[0], deed[2] = "expireat", str(end)
        if word == "set" and "for" in command[3:]:
            at = 3 + command[3:].index("for")
            end = now + int(command[at + 1])
            deed[at:at + 2] = ["until", str(end)]
        if end > 10 ** 15:
            return ("error", "range"), ()
        if word not in WRITING:
            there = Timed({key: entry for key, entry in self.plain().items() if key not in self.over(now)})
            there.now = now
            return there.reply(command), ()
        for key in self.over(now) if word == "clear" else keys_of(command):
            if key in self.over(now):
                del self.kept[key]
                deeds.append(("gone", key))
        return self.write(tuple(deed), now, deeds)

    def write(self, deed, now, deeds):
        before, kept = self.plain(), copy.deepcopy(self.kept)
        reply = self.reply(deed)
        if self.plain() == before:
            return reply, tuple(deeds)
        further = [key for key in self.over(now) if key not in keys_of(deed)][:max(0, len(self.kept) - 200)]
        if len(self.kept) - len(further) > 200:
            self.kept = kept
            return ("error", "size"), tuple(deeds)
        for key in further:
            del self.kept[key]
        return reply, (*deeds, *[("gone", key) for key in further], deed)
