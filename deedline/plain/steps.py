"""What the words of all stages have in common.

A step is what a right command answers at some entries, and what it changes: a pair (reply, changes).
The changes are a dict from keys to their entries behind the step, None for a key that is dropped.
"""

from deedline.base.replies import NONE, error_reply, text_reply
from deedline.base.words import MAX_TEXT, check_command
from deedline.errors import InvalidCommand
from deedline.plain.grammar import first_error
from deedline.shape.entries import check_store
from deedline.shape.packs import MAX_MEMBERS


def check_call(command, entries, words):
    """Raises an error unless these are a plain store and a right command with one of some words."""
    check_command(command)
    check_store(entries)
    if command[0] not in words or first_error(command) is not None:
        raise InvalidCommand("not right, or not of this stage")


def behind(entries, changes):
    """The entries behind some changes, a new dict with ascending keys."""
    made = {**entries, **changes}
    return {key: made[key] for key in sorted(made) if made[key] is not None}


def value_at(entries, key):
    """The value of a key that is no text, () if it is absent."""
    return entries[key][1] if key in entries else ()


def until_at(entries, key):
    """The time at which an entry runs out, None without one or if it is absent."""
    return entries[key][2] if key in entries else None


def renewed(entries, key, kind, value):
    """The changes by which a key gets another value of its kind: it keeps its time, and goes without members."""
    return {key: None if value == () else (kind, value, until_at(entries, key))}


def replaced(key, kind, value):
    """The changes by which a key gets a new entry in place of what it had, none without members."""
    return {key: None if value == () else (kind, value, None)}


def refused(code):
    """The step that answers an error."""
    return error_reply(code), {}


def stepped(action, command, entries, keys, kinds):
    """The step of a command by its action, which returns one if all these keys have one of these kinds."""
    if any([key in entries and entries[key][0] not in kinds for key in keys]):
        return refused("kind")
    reply, changes = action(command, entries)
    made = [entry for entry in changes.values() if entry is not None]
    if any([len(value) > (MAX_TEXT if kind == "text" else MAX_MEMBERS) for kind, value, _ in made]):
        return refused("size")
    return reply, changes


def told(text):
    """The reply with a text, none for None."""
    return NONE if text is None else text_reply(text)
