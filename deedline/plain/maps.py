"""The words of maps."""

from deedline.base.replies import list_reply, number_reply, texts_reply
from deedline.base.words import is_whole, number_of, text_of
from deedline.plain.grammar import keys_of
from deedline.plain.steps import behind, check_call, refused, renewed, stepped, told, value_at

MAP_WORDS = ("hadd", "hcount", "hdel", "hfields", "hget", "hhas", "hmany", "hpairs", "hset", "htexts")


def do_map(command, entries):
    """The reply to a right command with one of these words at a plain store, and the plain store behind it."""
    check_call(command, entries, MAP_WORDS)
    reply, changes = map_step(command, entries)
    return reply, behind(entries, changes)


def map_step(command, entries):
    """The step of a right command with one of these words."""
    action = _ACTIONS[command[0]]
    return stepped(action, command, entries, keys_of(command), ("map",))


def _fields_at(entries, key):
    """The dict from the fields of a key to their texts, in their order."""
    return dict(value_at(entries, key))


def _renewed_fields(entries, key, fields):
    """The changes by which a key gets the pairs of a dict."""
    return renewed(entries, key, "map", tuple(sorted(fields.items())))


def _hset(command, entries):
    key = command[1]
    fields = _fields_at(entries, key)
    many = len(fields)
    for at in range(2, len(command), 2):
        fields[command[at]] = command[at + 1]
    return number_reply(len(fields) - many), _renewed_fields(entries, key, fields)


def _hget(command, entries):
    _, key, field = command
    return told(_fields_at(entries, key).get(field)), {}


def _hmany(command, entries):
    fields = _fields_at(entries, command[1])
    return list_reply(tuple([told(fields.get(field)) for field in command[2:]])), {}


def _hdel(command, entries):
    key = command[1]
    fields = _fields_at(entries, key)
    rest = {field: fields[field] for field in fields if field not in command[2:]}
    return number_reply(len(fields) - len(rest)), _renewed_fields(entries, key, rest)


def _hhas(command, entries):
    _, key, field = command
    return number_reply(1 if field in _fields_at(entries, key) else 0), {}


def _hcount(command, entries):
    return number_reply(len(value_at(entries, command[1]))), {}


def _hfields(command, entries):
    return texts_reply(tuple([field for field, _ in value_at(entries, command[1])])), {}


def _htexts(command, entries):
    return texts_reply(tuple([text for _, text in value_at(entries, command[1])])), {}


def _hpairs(command, entries):
    return texts_reply(tuple([told_text for pair in value_at(entries, command[1]) for told_text in pair])), {}


def _hadd(command, entries):
    _, key, field, more = command
    fields = _fields_at(entries, key)
    number = number_of(fields.get(field, "0"))
    if number is None:
        return refused("number")
    total = number + number_of(more)
    if not is_whole(total):
        return refused("range")
    fields[field] = text_of(total)
    return number_reply(total), _renewed_fields(entries, key, fields)


_ACTIONS = {
    "hadd": _hadd, "hcount": _hcount, "hdel": _hdel, "hfields": _hfields, "hget": _hget, "hhas": _hhas,
    "hmany": _hmany, "hpairs": _hpairs, "hset": _hset, "htexts": _htexts,
}
