"""A plain model of the clients that wait at a store."""

from tests.model_store import is_over
from tests.plain import NONE, error
from tests.rows import number

WAITING = ("waitl", "waitmove", "waitr", "waitz")


def first_error(command):
    """The first error of a command of those who wait."""
    word, *told = command
    least = {"waitl": 2, "waitr": 2, "waitz": 3, "waitmove": 5}[word]
    if len(told) < least or word == "waitmove" and len(told) > 5:
        return "words"
    last = {"waitl": 1, "waitr": 1, "waitz": 2, "waitmove": 3}[word]
    for at, one in enumerate(told):
        if at < len(told) - last:
            if not 1 <= len(one) <= 40:
                return "size" if one else "syntax"
        elif at < len(told) - 1:
            if one not in (("least", "greatest") if word == "waitz" else ("left", "right")):
                return "syntax"
        elif number(one) is None:
            return "number"
        elif not 0 <= number(one) <= 10 ** 15:
            return "range"
    return None


class PlainWaits:
    def __init__(self, store):
        self.store, self.row = store, []

    def names(self):
        return tuple(name for name, _, _ in self.row)

    def kind(self, key, now):
        entry = self.store.entry(key)
        return None if entry is None or is_over(entry, now) else entry[0]

    def parts(self, command):
        """The keys, those that are popped from, and the kind."""
        word, *told = command
        if word == "waitmove":
            return told[:2], told[:1], "list"
        if word == "waitz":
            return told[:-2], told[:-2], "sorted"
        return told[:-1], told[:-1], "list"

    def ask(self, name, command, now):
        self.store.sweep(now, 0)
        wrong = first_error(command)
        if wrong is None and now + int(command[-1]) > 10 ** 15:
            wrong = "range"
        if wrong is None:
            keys, _, kind = self.parts(command)
            wrong = "kind" if any(self.kind(key, now) not in (None, kind) for key in keys) else None
        if wrong:
            return error(wrong)
        reply = self.answer(command, now)
        if reply is None:
            self.row.append((name, command, now + int(command[-1]) if int(command[-1]) else None))
        return reply

    def answer(self, command, now):
        """The reply if the command can be answered, otherwise None."""
        _, popped, kind = self.parts(command)
        for key in popped:
            if self.kind(key, now) == kind:
                word = command[0]
                pop = {"waitl": ("popl", key), "waitr": ("popr", key), "waitz": ("zpop", key, command[-2]), "waitmove": ("move", *command[1:-1])}[word]
                reply = self.store.call(pop, now)
                if reply[0] == "error" or word == "waitmove":
                    return reply
                return ("list", (("text", key), *(reply[1] if word == "waitz" else (reply,))))
        return None

    def end(self, now):
        self.store.sweep(now, 0)
        over = sorted((until, at, name) for at, (name, _, until) in enumerate(self.row) if until is not None and until <= now)
        self.row = [one for one in self.row if one[0] not in {name for _, _, name in over}]
        return tuple((name, NONE) for _, _, name in over)

    def serve_next(self, now):
        """Answers one client, and returns the pair, or None."""
        for one in self.row:
            name, command, until = one
            if until is None or until > now:
                reply = self.answer(command, now)
                if reply is not None:
                    self.row.remove(one)
                    return name, reply
        return None

    def serve(self, now):
        self.store.sweep(now, 0)
        told = []
        while (pair := self.serve_next(now)) is not None:
            told.append(pair)
        return tuple(told)
