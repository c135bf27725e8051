"""The words of keys and times."""

from deedline.base.hashes import spot_of
from deedline.base.patterns import fitting
from deedline.base.replies import DONE, NONE, list_reply, number_reply, text_reply, texts_reply
from deedline.base.words import check_command, check_time, number_of, text_of
from deedline.errors import InvalidCommand
from deedline.plain.grammar import does_write, first_error, options_of
from deedline.plain.steps import behind, refused, until_at
from deedline.plain.times import shown_at, timed
from deedline.shape.entries import check_store

KEY_WORDS = (
    "clear", "copy", "del", "exists", "expire", "expireat", "keys", "kind", "left", "persist", "rename",
    "renamenew", "scan", "size",
)
_USUAL_COUNT = 10


def do_keys(command, entries, now=None):
    """The reply to a right command of this stage at a plain store, and the plain store behind it."""
    check_command(command)
    word = command[0]
    if word not in KEY_WORDS or first_error(command) is not None or word in ("expire", "left") and now is None:
        raise InvalidCommand("not right, not of this stage, or not without a time")
    check_store(entries)
    if now is not None:
        check_time(now)
    reply, changes = keys_step(command, entries, now)
    return reply, behind(entries, changes)


def keys_step(command, entries, now):
    """The step of a right command of this stage. At None nothing has run out."""
    there = entries if does_write(command) else shown_at(entries, now)
    action = _ACTIONS[command[0]]
    return action(command, there, now)


def _del(command, entries, now):
    gone = {key: None for key in command[1:] if key in entries}
    return number_reply(len(gone)), gone


def _exists(command, entries, now):
    return number_reply(len([key for key in command[1:] if key in entries])), {}


def _kind(command, entries, now):
    _, key = command
    return text_reply(entries[key][0]) if key in entries else NONE, {}


def _rename(command, entries, now):
    _, key, other = command
    if key not in entries:
        return refused("missing")
    # If both keys are the same, the entry stands in the place of the one that goes.
    changes = {key: None}
    changes[other] = entries[key]
    return DONE, changes


def _renamenew(command, entries, now):
    reply, changes = _rename(command, entries, now)
    if reply != DONE:
        return reply, changes
    if command[2] in entries:
        return number_reply(0), {}
    return number_reply(1), changes


def _copy(command, entries, now):
    _, key, other, *over = command
    if key not in entries or key == other or other in entries and not over:
        return number_reply(0), {}
    return number_reply(1), {other: entries[key]}


def _does_hold(option, until, end):
    """Whether an option lets a time become another one."""
    if option == "new":
        return until is None
    if option == "old":
        return until is not None
    if option == "later":
        return until is not None and until < end
    return until is None or until > end


def _expireat(command, entries, now):
    _, key, told, *option = command
    end = number_of(told)
    if key not in entries or option and not _does_hold(option[0], until_at(entries, key), end):
        return number_reply(0), {}
    kind, value, _ = entries[key]
    return number_reply(1), {key: (kind, value, end)}


def _expire(command, entries, now):
    at_time = timed(command, now)
    if at_time is None:
        return refused("range")
    return _expireat(at_time, entries, now)


def _left(command, entries, now):
    _, key = command
    until = until_at(entries, key)
    if until is not None:
        return number_reply(until - now), {}
    return number_reply(-1 if key in entries else -2), {}


def _persist(command, entries, now):
    _, key = command
    if until_at(entries, key) is None:
        return number_reply(0), {}
    kind, value, _ = entries[key]
    return number_reply(1), {key: (kind, value, None)}


def _keys(command, entries, now):
    _, pattern = command
    return texts_reply(fitting(pattern, tuple(sorted(entries)))), {}


def _size(command, entries, now):
    return number_reply(len(entries)), {}


def _clear(command, entries, now):
    return DONE, {key: None for key in entries}


def _looked_at(entries, cursor, count):
    """The next cursor, and the keys at which a scan looks."""
    pairs = sorted([(spot_of(key), key) for key in entries])
    pairs = [pair for pair in pairs if pair[0] >= cursor]
    if not pairs:
        return 0, ()
    last, _ = pairs[min(count, len(pairs)) - 1]
    keys = tuple([key for spot, key in pairs if spot <= last])
    return last + 1 if len(keys) < len(pairs) else 0, keys


def _scan(command, entries, now):
    options = options_of(command)
    cursor, keys = _looked_at(entries, number_of(command[1]), options.get("count", _USUAL_COUNT))
    if "match" in options:
        keys = fitting(options["match"], keys)
    if "kind" in options:
        keys = tuple([key for key in keys if entries[key][0] == options["kind"]])
    return list_reply((text_reply(text_of(cursor)), texts_reply(keys))), {}


_ACTIONS = {
    "clear": _clear, "copy": _copy, "del": _del, "exists": _exists, "expire": _expire, "expireat": _expireat,
    "keys": _keys, "kind": _kind, "left": _left, "persist": _persist, "rename": _rename,
    "renamenew": _renamenew, "scan": _scan, "size": _size,
}
