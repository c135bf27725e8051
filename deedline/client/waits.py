"""Clients that wait at a store until a list or a sorted set has something for them."""

from deedline.base.replies import NONE, error_reply, list_reply, text_reply
from deedline.base.words import MAX_TIME, check_command, check_not_ahead, check_text, number_of
from deedline.errors import InvalidCommand, InvalidOperation, TooMany, UnknownName
from deedline.plain.reading import Reading, Wrong
from deedline.plain.times import is_over
from deedline.store.core import check_is_store

MAX_WAITING = 100
WAIT_WORDS = ("waitl", "waitmove", "waitr", "waitz")
# The letters of what stands behind the keys of a word; `Reading` tells what they stand for.
_LAST = {"waitl": "A", "waitmove": "LLA", "waitr": "A", "waitz": "EA"}
_MOVE_LENGTH = 6


class Waits:
    """The clients that wait at a store."""

    def __init__(self, store):
        check_is_store(store)
        self._store = store
        # The command and the time, or None, of each client; the one that waits longest stands first.
        self._waiting = {}

    @property
    def names(self):
        """The tuple of the names of the waiting clients, the one that waits longest first."""
        return tuple(self._waiting)

    def ask(self, name, command, now):
        """Returns the reply to a client that asks, or None if it waits now."""
        check_text(name)
        if name in self._waiting:
            raise InvalidOperation("this client waits already")
        _check_wait(command)
        check_not_ahead(now, self._store.now)
        error = self._error(command, now)
        key = None if error is not None else self._ready_key(command, now)
        if error is None and key is None and len(self._waiting) == MAX_WAITING:
            raise TooMany(MAX_WAITING)
        self._move_to(now)
        if error is not None:
            return error_reply(error)
        if key is not None:
            return self._answer(command, key, now)
        span = number_of(command[-1])
        self._waiting[name] = (command, now + span if span > 0 else None)
        return None

    def end(self, now):
        """Ends all waits whose time has come, and returns the pairs of names and replies."""
        self._move_to(now)
        rows = [(until, place, name) for place, (name, (_, until)) in enumerate(self._waiting.items())
                if _has_come(until, now)]
        names = [name for _, _, name in sorted(rows)]
        for name in names:
            del self._waiting[name]
        return tuple([(name, NONE) for name in names])

    def serve(self, now):
        """Answers who can be answered, and returns the pairs of names and replies."""
        self._move_to(now)
        pairs = []
        pair = self.serve_next(now)
        while pair is not None:
            pairs.append(pair)
            pair = self.serve_next(now)
        return tuple(pairs)

    def serve_next(self, now):
        """Answers the client that has waited longest of those that can be answered: its name and reply, or None."""
        names = [name for name, (command, until) in self._waiting.items()
                 if not _has_come(until, now) and self._ready_key(command, now) is not None]
        if not names:
            return None
        command, _ = self._waiting.pop(names[0])
        return names[0], self._answer(command, self._ready_key(command, now), now)

    def cancel(self, name):
        """Makes a client wait no longer, and returns whether it waited."""
        check_text(name)
        return self._waiting.pop(name, None) is not None

    def command(self, name):
        """What a client waits for."""
        command, _ = self._wait_of(name)
        return command

    def until(self, name):
        """The time at which the wait of a client ends, or None."""
        _, until = self._wait_of(name)
        return until

    def __len__(self):
        return len(self._waiting)

    def __contains__(self, value):
        return isinstance(value, str) and value in self._waiting

    def _wait_of(self, name):
        """The command and the time of a client that waits."""
        if name not in self:
            raise UnknownName(name)
        return self._waiting[name]

    def _move_to(self, now):
        """Makes a time that of the store."""
        # A sweep that takes nothing does nothing else.
        self._store.sweep(now, 0)

    def _error(self, command, now):
        """The error that answers a command, or None."""
        error = _first_error(command)
        if error is not None:
            return error
        if now + number_of(command[-1]) > MAX_TIME:
            return "range"
        kinds = [self._kind_at(key, now) for key in _keys_of(command)]
        if any([kind not in (None, _kind_of(command)) for kind in kinds]):
            return "kind"
        return None

    def _kind_at(self, key, now):
        """The kind of the value of a key that is shown, or None."""
        entry = self._store.entry(key)
        return None if entry is None or is_over(entry, now) else entry[0]

    def _ready_key(self, command, now):
        """The first key from which a command can be answered, or None."""
        keys = [key for key in _popped_keys(command) if self._kind_at(key, now) == _kind_of(command)]
        return keys[0] if keys else None

    def _answer(self, command, key, now):
        """The reply to a command that is answered from a key."""
        reply = self._store.call(_pop_of(command, key), now)
        if reply[0] == "error" or command[0] == "waitmove":
            return reply
        told = reply[1] if command[0] == "waitz" else (reply,)
        return list_reply((text_reply(key), *told))


def _check_wait(command):
    """Raises InvalidCommand if it is no command, or its word is none of this stage."""
    check_command(command)
    if command[0] not in WAIT_WORDS:
        raise InvalidCommand("no word of those who wait")


def _first_error(command):
    """The error that the texts of a command tell, or None."""
    word = command[0]
    last = _LAST[word]
    keys = len(command) - 1 - len(last)
    if keys < 1 or word == "waitmove" and len(command) != _MOVE_LENGTH:
        return "words"
    reading = Reading(command)
    try:
        for letter in "K" * keys + last:
            reading.piece(letter)
    except Wrong as wrong:
        return wrong.code
    return None


def _keys_of(command):
    """The keys of a right command."""
    return command[1:len(command) - len(_LAST[command[0]])]


def _popped_keys(command):
    """The keys from which a right command can be answered."""
    return command[1:2] if command[0] == "waitmove" else _keys_of(command)


def _kind_of(command):
    """The kind of the values that a command takes."""
    return "sorted" if command[0] == "waitz" else "list"


def _pop_of(command, key):
    """The command that takes for another one what it waits for."""
    word = command[0]
    if word == "waitmove":
        return ("move", *command[1:-1])
    if word == "waitz":
        return ("zpop", key, command[-2])
    return ("popl" if word == "waitl" else "popr", key)


def _has_come(until, now):
    """Whether the time at which a wait ends has come."""
    return until is not None and until <= now
