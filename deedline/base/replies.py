"""Replies to commands."""

from deedline.base.words import check_text, check_whole, is_text, is_whole
from deedline.errors import InvalidOperation

DONE = ("done",)
NONE = ("none",)
CODES = (
    "broken", "busy", "copy", "idle", "kind", "missing", "nested", "number",
    "place", "range", "room", "size", "syntax", "unknown", "words",
)
# The most members of a list.
MAX_LISTED = 1000
_MAX_DEEP = 4


def is_reply(value):
    """Whether the value is a reply."""
    return _is_reply(value, _MAX_DEEP)


def _is_reply(value, deep):
    """Whether the value is a reply whose lists stand at most `deep` deep."""
    if not isinstance(value, tuple):
        return False
    if len(value) != 2:
        return value == DONE or value == NONE
    word, told = value
    if word == "text":
        return is_text(told)
    if word == "number":
        return is_whole(told)
    if word == "error":
        return told in CODES
    return word == "list" and deep > 0 and _are_members(told, deep - 1)


def _are_members(value, deep):
    """Whether the value is a tuple of replies that one list can have."""
    if not isinstance(value, tuple) or len(value) > MAX_LISTED:
        return False
    return all([_is_reply(reply, deep) for reply in value])


def text_reply(text):
    """The reply with a text."""
    check_text(text)
    return ("text", text)


def number_reply(number):
    """The reply with a whole number."""
    check_whole(number)
    return ("number", number)


def list_reply(replies):
    """The reply with a tuple of replies."""
    reply = ("list", replies)
    if not is_reply(reply):
        raise InvalidOperation("no tuple of replies, too many, or too deep")
    return reply


def texts_reply(texts):
    """The list of the text replies of a tuple of texts."""
    if not isinstance(texts, tuple):
        raise InvalidOperation("no tuple of texts")
    return list_reply(tuple([text_reply(text) for text in texts]))


def error_reply(code):
    """The reply with the code of an error."""
    if code not in CODES:
        raise InvalidOperation("no code of an error")
    return ("error", code)
