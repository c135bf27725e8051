"""The words of lists."""

from deedline.base.replies import DONE, NONE, number_reply, texts_reply
from deedline.base.words import clipped, number_of
from deedline.plain.grammar import keys_of
from deedline.plain.steps import behind, check_call, refused, renewed, stepped, told, value_at

LIST_WORDS = (
    "at", "drop", "insert", "len", "move", "popl", "popr", "pushl", "pushlold", "pushr", "pushrold",
    "range", "setat", "trim",
)


def do_list(command, entries):
    """The reply to a right command with one of these words at a plain store, and the plain store behind it."""
    check_call(command, entries, LIST_WORDS)
    reply, changes = list_step(command, entries)
    return reply, behind(entries, changes)


def list_step(command, entries):
    """The step of a right command with one of these words."""
    action = _ACTIONS[command[0]]
    return stepped(action, command, entries, keys_of(command), ("list",))


def _index_of(text, total):
    """The index that a text tells in a row of so many members, or None if there is none."""
    index = number_of(text)
    if index < 0:
        index += total
    return index if 0 <= index < total else None


def _push(command, entries):
    word, key, *texts = command
    members = value_at(entries, key)
    if members == () and word in ("pushlold", "pushrold"):
        return number_reply(0), {}
    if word in ("pushl", "pushlold"):
        members = (*texts[::-1], *members)
    else:
        members = (*members, *texts)
    return number_reply(len(members)), renewed(entries, key, "list", members)


def _taken(members, count, side):
    """The first members on a side, as many as told, and the others."""
    if side == "left":
        return members[:count], members[count:]
    turned = members[::-1]
    return turned[:count], turned[count:][::-1]


def _pop(command, entries):
    key = command[1]
    members = value_at(entries, key)
    if members == ():
        return NONE, {}
    count = number_of(command[2]) if len(command) > 2 else 1
    texts, rest = _taken(members, count, "left" if command[0] == "popl" else "right")
    reply = texts_reply(texts) if len(command) > 2 else told(texts[0])
    return reply, renewed(entries, key, "list", rest)


def _len(command, entries):
    return number_reply(len(value_at(entries, command[1]))), {}


def _at(command, entries):
    members = value_at(entries, command[1])
    index = _index_of(command[2], len(members))
    return told(None if index is None else members[index]), {}


def _setat(command, entries):
    _, key, place, text = command
    members = value_at(entries, key)
    if members == ():
        return refused("missing")
    index = _index_of(place, len(members))
    if index is None:
        return refused("place")
    return DONE, renewed(entries, key, "list", (*members[:index], text, *members[index + 1:]))


def _clipped_members(command, entries):
    """The members that two numbers tell."""
    _, key, first, last = command
    members = value_at(entries, key)
    start, end = clipped(number_of(first), number_of(last), len(members))
    return members[start:end]


def _range(command, entries):
    return texts_reply(_clipped_members(command, entries)), {}


def _trim(command, entries):
    return DONE, renewed(entries, command[1], "list", _clipped_members(command, entries))


def _insert(command, entries):
    _, key, where, known, text = command
    members = value_at(entries, key)
    if members == ():
        return number_reply(0), {}
    if known not in members:
        return number_reply(-1), {}
    place = members.index(known) + (0 if where == "before" else 1)
    made = (*members[:place], text, *members[place:])
    return number_reply(len(made)), renewed(entries, key, "list", made)


def _drop(command, entries):
    _, key, told_count, text = command
    members = value_at(entries, key)
    count = number_of(told_count)
    places = [place for place, member in enumerate(members) if member == text]
    places = places[:count] if count > 0 else places[count:]
    rest = tuple([member for place, member in enumerate(members) if place not in places])
    return number_reply(len(places)), renewed(entries, key, "list", rest)


def _move(command, entries):
    _, key, other, side, other_side = command
    members = value_at(entries, key)
    if members == ():
        return NONE, {}
    texts, rest = _taken(members, 1, side)
    others = rest if key == other else value_at(entries, other)
    others = (*texts, *others) if other_side == "left" else (*others, *texts)
    changes = renewed(entries, key, "list", rest)
    # With one key twice, the list that was turned stands in the place of the rest.
    changes.update(renewed(entries, other, "list", others))
    return told(texts[0]), changes


_ACTIONS = {
    "at": _at, "drop": _drop, "insert": _insert, "len": _len, "move": _move, "popl": _pop, "popr": _pop,
    "pushl": _push, "pushlold": _push, "pushr": _push, "pushrold": _push, "range": _range, "setat": _setat,
    "trim": _trim,
}
