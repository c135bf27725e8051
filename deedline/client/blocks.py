"""One client's way to a store: blocks of commands, and watched keys."""

from deedline.base.replies import DONE, NONE, error_reply, text_reply
from deedline.base.words import MAX_KEY, check_command, check_time
from deedline.plain.grammar import first_error
from deedline.plain.store import MAX_BLOCK
from deedline.plain.times import is_over
from deedline.store.core import check_is_store

SESSION_WORDS = ("begin", "do", "stop", "unwatch", "watch")


class Session:
    """Collects the commands of one client in a block, and watches keys."""

    def __init__(self, store):
        check_is_store(store)
        self._store = store
        # None if no block is open.
        self._queue = None
        self._is_broken = False
        # For each watched key the place at which it was noted, and whether it was kept then.
        self._notes = {}

    @property
    def queued(self):
        """The tuple of the queued commands, or None if no block is open."""
        return None if self._queue is None else tuple(self._queue)

    @property
    def is_broken(self):
        """Whether the open block is broken."""
        return self._is_broken

    @property
    def watched(self):
        """The ascending tuple of the watched keys."""
        return tuple(sorted(self._notes))

    def call(self, command, now):
        """Does a command, and returns the reply."""
        check_command(command)
        # A sweep that takes nothing moves the time of the store.
        self._store.sweep(now, 0)
        if command[0] not in SESSION_WORDS:
            return self._other(command, now)
        error = _word_error(command)
        if error is not None:
            return self._error(error)
        return self._own(command, now)

    def touched(self, now):
        """The first reason for which a watched key is touched at a time, or None."""
        check_time(now)
        places = [place for place, _ in self._notes.values()]
        for place in range(min(places, default=self._store.place), self._store.place):
            for keys in self._store.changed(place):
                hit = [key for key in keys if key in self._notes and self._notes[key][0] <= place]
                if hit:
                    return ("deed", place, hit[0])
        over = [key for key in self.watched if self._did_run_out(key, now)]
        return ("ran out", over[0]) if over else None

    def leave(self):
        """Closes the block without doing it, and watches nothing more."""
        self._queue = None
        self._is_broken = False
        self._notes = {}

    def _own(self, command, now):
        """Does a right command with a word of this stage."""
        word = command[0]
        is_open = self._queue is not None
        if is_open and word in ("begin", "watch", "unwatch"):
            return self._error("nested")
        if not is_open and word in ("do", "stop"):
            return error_reply("idle")
        if word == "do":
            return self._do(now)
        if word == "begin":
            self._queue = []
        elif word == "watch":
            self._watch(command[1:], now)
        else:
            self.leave()
        return DONE

    def _other(self, command, now):
        """Does a command with another word, or queues it."""
        if self._queue is None:
            return self._store.call(command, now)
        error = first_error(command)
        if error is None and len(self._queue) == MAX_BLOCK:
            error = "size"
        if error is not None:
            return self._error(error)
        self._queue.append(command)
        return text_reply("queued")

    def _error(self, code):
        """The reply with an error, which breaks an open block."""
        self._is_broken = self._queue is not None
        return error_reply(code)

    def _do(self, now):
        """Closes the block, and does it if nothing stands against it."""
        commands = self.queued
        is_broken = self._is_broken
        touched = self.touched(now)
        self.leave()
        if is_broken:
            return error_reply("broken")
        return NONE if touched is not None else self._store.block(commands, now)

    def _watch(self, keys, now):
        """Takes those keys that have run out, and notes all that are not watched yet."""
        kept = self._store.kept()
        over = {key: True for key in keys if key in kept and is_over(kept[key], now)}
        if over:
            self._store.apply((now, tuple([("gone", key) for key in over])))
        for key in keys:
            if key not in self._notes:
                self._notes[key] = (self._store.place, key in self._store)

    def _did_run_out(self, key, now):
        """Whether a watched key was kept when it was noted, and has run out."""
        _, was_kept = self._notes[key]
        entry = self._store.entry(key)
        return was_kept and entry is not None and is_over(entry, now)


def _word_error(command):
    """The error that the texts of a command with a word of this stage tell, or None."""
    word, *keys = command
    if (word == "watch") != bool(keys):
        return "words"
    for key in keys:
        if key == "":
            return "syntax"
        if len(key) > MAX_KEY:
            return "size"
    return None
