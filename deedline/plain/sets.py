"""The words of sets."""

from deedline.base.replies import MAX_LISTED, list_reply, number_reply, texts_reply
from deedline.base.words import number_of
from deedline.plain.grammar import keys_of
from deedline.plain.steps import behind, check_call, refused, renewed, replaced, stepped, told, value_at

SET_WORDS = (
    "sadd", "scount", "sdiff", "sdiffto", "shas", "sinter", "sinterto", "smembers", "smove", "spop", "srem",
    "sunion", "sunionto",
)


def do_set(command, entries):
    """The reply to a right command with one of these words at a plain store, and the plain store behind it."""
    check_call(command, entries, SET_WORDS)
    reply, changes = set_step(command, entries)
    return reply, behind(entries, changes)


def set_step(command, entries):
    """The step of a right command with one of these words."""
    keys = keys_of(command)
    if command[0] in ("sinterto", "sunionto", "sdiffto"):
        keys = keys[1:]
    action = _ACTIONS[command[0]]
    return stepped(action, command, entries, keys, ("set",))


def _ascending(texts):
    """The ascending tuple of the different ones of some texts."""
    return tuple(sorted(set(texts)))


def _less(members, texts):
    """The members but for some texts."""
    return tuple([member for member in members if member not in texts])


def _sadd(command, entries):
    key = command[1]
    members = value_at(entries, key)
    made = _ascending((*members, *command[2:]))
    return number_reply(len(made) - len(members)), renewed(entries, key, "set", made)


def _take_out(command, entries):
    key = command[1]
    members = value_at(entries, key)
    made = _less(members, command[2:])
    return number_reply(len(members) - len(made)), renewed(entries, key, "set", made)


def _shas(command, entries):
    members = value_at(entries, command[1])
    return list_reply(tuple([number_reply(1 if text in members else 0) for text in command[2:]])), {}


def _smembers(command, entries):
    return texts_reply(value_at(entries, command[1])), {}


def _scount(command, entries):
    return number_reply(len(value_at(entries, command[1]))), {}


def _smove(command, entries):
    _, key, other, text = command
    members = value_at(entries, key)
    if text not in members:
        return number_reply(0), {}
    changes = renewed(entries, key, "set", _less(members, (text,)))
    # With one key twice, its set as it was stands in the place of the rest.
    changes.update(renewed(entries, other, "set", _ascending((*value_at(entries, other), text))))
    return number_reply(1), changes


def _spop(command, entries):
    key = command[1]
    members = value_at(entries, key)
    count = number_of(command[2]) if len(command) > 2 else 1
    texts = members[:count]
    reply = texts_reply(texts) if len(command) > 2 else told(texts[0] if texts else None)
    return reply, renewed(entries, key, "set", members[count:])


def _combined(word, rows):
    """The ascending tuple of the members that a word tells of the members of some sets."""
    first, *others = rows
    if word in ("sunion", "sunionto"):
        return _ascending([text for row in rows for text in row])
    if word in ("sinter", "sinterto"):
        return tuple([text for text in first if all([text in row for row in others])])
    return tuple([text for text in first if not any([text in row for row in others])])


def _combine(command, entries):
    members = _combined(command[0], [value_at(entries, key) for key in command[1:]])
    # What is told is no value: only a list that is no reply is too long.
    if len(members) > MAX_LISTED:
        return refused("size")
    return texts_reply(members), {}


def _combine_to(command, entries):
    members = _combined(command[0], [value_at(entries, key) for key in command[2:]])
    return number_reply(len(members)), replaced(command[1], "set", members)


_ACTIONS = {
    "sadd": _sadd, "scount": _scount, "sdiff": _combine, "sdiffto": _combine_to, "shas": _shas,
    "sinter": _combine, "sinterto": _combine_to, "smembers": _smembers, "smove": _smove, "spop": _spop,
    "srem": _take_out, "sunion": _combine, "sunionto": _combine_to,
}
