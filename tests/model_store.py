"""A plain model of the store: a dict, `do`, and plain sums."""

from deedline.plain.grammar import keys_of
from deedline.plain.store import apply, do
from tests.helpers import chance
from tests.commands import Maker


def plain_size(entries):
    """The size of a plain store."""
    total = 0
    for key, (kind, value, _) in entries.items():
        total += len(key) + 16
        if kind == "text":
            total += len(value)
        else:
            more = {"list": 2, "set": 2, "sorted": 10, "map": 4}[kind]
            total += sum(more + sum(len(part) for part in (member if type(member) is tuple else (member,)) if type(part) is str) for member in value)
    return total


def is_over(entry, now):
    return entry[2] is not None and entry[2] <= now


class PlainStore:
    """What a store keeps, tells and marks."""

    def __init__(self, entries=None, bound=None, policy="refuse", place=0, now=0):
        self.kept = dict(entries or {})
        self.bound, self.policy, self.begin, self.now, self.last = bound, policy, place, now, now
        self.marks, self.count, self.units, self.changed = {}, 0, [], []

    @property
    def place(self):
        return self.begin + len(self.units)

    def enter(self, now, deeds):
        """Puts a unit in the line."""
        changed = []
        for deed in deeds:
            after = apply(self.kept, deed)
            changed.append(tuple(sorted(key for key in {**self.kept, **after} if self.kept.get(key) != after.get(key))))
            self.kept = after
            self.marks = {key: mark for key, mark in self.marks.items() if key in after}
        self.units.append((now, tuple(deeds)))
        self.changed.append(tuple(changed))
        self.last = now

    def ways(self, kept, now, named):
        """The deeds by which room can be made, in their order."""
        over = sorted((entry[2], key) for key, entry in kept.items() if is_over(entry, now))
        there = [key for key in kept if not is_over(kept[key], now) and key not in named]
        if self.policy == "idle":
            out = sorted((self.marks.get(key, 0), key) for key in there)
        elif self.policy == "nearest":
            out = sorted((kept[key][2], key) for key in there if kept[key][2] is not None)
        else:
            out = []
        return [("gone", key) for _, key in over] + [("out", key) for _, key in out]

    def block(self, commands, now):
        """Does commands as one unit, and returns their replies, or None if it is refused."""
        self.now = now
        kept, replies, deeds = self.kept, [], []
        elder = dict(self.marks), self.count
        for command in commands:
            reply, kept, made = do(command, kept, now)
            replies.append(reply)
            deeds += made
            gone = [deed[1] for deed in made if deed[0] == "gone"]
            self.marks = {key: mark for key, mark in self.marks.items() if key in kept and key not in gone}
            if reply[0] != "error":
                self.count += 1
                self.marks.update({key: self.count for key in keys_of(command) if key in kept and not is_over(kept[key], now)})
        named = [key for command in commands for key in keys_of(command)]
        room = []
        if deeds and self.bound is not None:
            ways = self.ways(kept, now, named)
            while plain_size(kept) > self.bound:
                if len(room) == len(ways):
                    self.marks, self.count = elder
                    return None
                room.append(ways[len(room)])
                kept = {key: entry for key, entry in kept.items() if key != room[-1][1]}
        if deeds:
            marks = self.marks
            self.enter(now, [*deeds, *room])
            assert self.kept == kept
            self.marks = {key: mark for key, mark in marks.items() if key in kept}
        return tuple(replies)

    def call(self, command, now):
        replies = self.block((command,), now)
        return ("error", "room") if replies is None else replies[0]

    def sweep(self, now, budget):
        self.now = now
        over = sorted((entry[2], key) for key, entry in self.kept.items() if is_over(entry, now))[:budget]
        if over:
            self.enter(now, [("gone", key) for _, key in over])
        return len(over)


class Times:
    """Commands of all words at times that rise, whose spans end soon."""

    def __init__(self, seed, words, **options):
        self.pick = chance(seed)
        self.maker, self.words, self.now = Maker(self.pick, **options), words, 0

    def command(self, quick=True):
        """The next command, and its time."""
        if quick:
            self.now += self.pick.choice((0, 0, 0, 1, 2, 9))
        command = self.maker.command(self.pick.choice(self.words))
        if command[0] in ("expireat", "set") and self.pick.random() < 0.8:
            soon = {"until": str(self.now + self.pick.randrange(9)), "for": str(self.pick.randrange(1, 9))}
            command = tuple(soon.get(command[at - 1], text) if at > 3 else text for at, text in enumerate(command))
            if command[0] == "expireat":
                command = (*command[:2], str(self.now + self.pick.randrange(-2, 9)), *command[3:])
        return command
