"""The words of texts."""

from deedline.base.replies import DONE, NONE, list_reply, number_reply, text_reply
from deedline.base.words import clipped, is_whole, number_of, text_of
from deedline.errors import InvalidCommand
from deedline.plain.grammar import options_of
from deedline.plain.steps import behind, check_call, refused, renewed, replaced, stepped, told, until_at

TEXT_WORDS = ("add", "append", "get", "getall", "grab", "length", "part", "set", "setall")


def do_text(command, entries):
    """The reply to a right command with one of these words at a plain store, and the plain store behind it."""
    check_call(command, entries, TEXT_WORDS)
    if "for" in options_of(command):
        raise InvalidCommand("a span of time, but no time from which it is counted")
    reply, changes = text_step(command, entries)
    return reply, behind(entries, changes)


def text_step(command, entries):
    """The step of a right command with one of these words."""
    action = _ACTIONS[command[0]]
    return stepped(action, command, entries, _text_keys(command), ("text",))


def _text_keys(command):
    """The keys of a command that have to be those of texts."""
    word = command[0]
    if word in ("getall", "setall") or word == "set" and "was" not in options_of(command):
        return ()
    return command[1:2]


def _text_at(entries, key):
    """The text of a key, or None if it is absent or of another kind."""
    if key in entries and entries[key][0] == "text":
        return entries[key][1]
    return None


def _get(command, entries):
    return told(_text_at(entries, command[1])), {}


def _getall(command, entries):
    return list_reply(tuple([told(_text_at(entries, key)) for key in command[1:]])), {}


def _grab(command, entries):
    _, key = command
    return told(_text_at(entries, key)), {key: None}


def _set(command, entries):
    options = options_of(command)
    key, text = command[1:3]
    barring = "new" if key in entries else "old"
    is_done = barring not in options
    reply = DONE if is_done else NONE
    if "was" in options:
        reply = told(_text_at(entries, key))
    if not is_done:
        return reply, {}
    until = until_at(entries, key) if "keep" in options else options.get("until")
    return reply, {key: ("text", text, until)}


def _setall(command, entries):
    changes = {}
    for at in range(1, len(command), 2):
        changes.update(replaced(command[at], "text", command[at + 1]))
    return DONE, changes


def _append(command, entries):
    _, key, more = command
    text = (_text_at(entries, key) or "") + more
    return number_reply(len(text)), renewed(entries, key, "text", text) if more else {}


def _length(command, entries):
    return number_reply(len(_text_at(entries, command[1]) or "")), {}


def _part(command, entries):
    _, key, first, last = command
    text = _text_at(entries, key) or ""
    start, end = clipped(number_of(first), number_of(last), len(text))
    return text_reply(text[start:end]), {}


def _add(command, entries):
    _, key, more = command
    text = _text_at(entries, key)
    number = 0 if text is None else number_of(text)
    if number is None:
        return refused("number")
    total = number + number_of(more)
    if not is_whole(total):
        return refused("range")
    return number_reply(total), renewed(entries, key, "text", text_of(total))


_ACTIONS = {
    "add": _add, "append": _append, "get": _get, "getall": _getall, "grab": _grab, "length": _length,
    "part": _part, "set": _set, "setall": _setall,
}
