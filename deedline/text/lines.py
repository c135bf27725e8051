"""Lines that tell words, and texts that show replies."""

from deedline.base.letters import MAX_DEEP
from deedline.base.replies import DONE, NONE, is_reply
from deedline.base.words import MAX_TEXT, are_texts, is_printed, is_text, number_of, text_of
from deedline.errors import InvalidOperation, InvalidText, ParseError

MAX_LINE = 4000
_QUOTE = "\""
_SLASH = "\\"
_SPECIAL = (" ", "\"", "\\")


def words_of(line):
    """The tuple of the words of a line."""
    if not is_printed(line) or len(line) > MAX_LINE:
        raise InvalidText(line)
    words = []
    begins = []
    at = 0
    while at < len(line):
        if line[at] == " ":
            at += 1
        else:
            begins.append(at)
            word, at = _word_at(line, at)
            words.append(word)
    for word, begin in zip(words, begins):
        if len(word) > MAX_TEXT:
            raise ParseError(begin)
    return tuple(words)


def line_of(words):
    """The shortest line with these words."""
    if not are_texts(words):
        raise InvalidOperation("no tuple of texts")
    return " ".join([word if _is_plain(word) else _quoted(word) for word in words])


def show(reply):
    """The shown text of a reply."""
    if not is_reply(reply):
        raise InvalidOperation("no reply")
    return _shown(reply)


def read_shown(shown):
    """The reply with just this shown text."""
    try:
        reply, end = _reply_at(shown, 0, MAX_DEEP) if is_printed(shown) else (None, 0)
    except ParseError:
        raise ParseError(None) from None
    # What was read need not be a reply, or shown otherwise: a list that is too long, say.
    if not is_reply(reply) or end < len(shown) or _shown(reply) != shown:
        raise ParseError(None)
    return reply


def _is_plain(word):
    """Whether a word can stand for itself."""
    return word != "" and not any([sign in word for sign in _SPECIAL])


def _quoted(text):
    """A text as a quoted word."""
    inner = text.replace(_SLASH, _SLASH + _SLASH).replace(_QUOTE, _SLASH + _QUOTE)
    return _QUOTE + inner + _QUOTE


def _word_at(line, at):
    """The word that begins at an index of a line, and the index behind it."""
    if line[at] != _QUOTE:
        return _plain_at(line, at)
    word, end = _quoted_at(line, at)
    if line[end:end + 1] not in ("", " "):
        raise ParseError(end)
    return word, end


def _plain_at(line, at):
    """The plain word that begins at an index, and the index behind it."""
    end = at
    while end < len(line) and line[end] != " ":
        if line[end] in _SPECIAL:
            raise ParseError(end)
        end += 1
    return line[at:end], end


def _quoted_at(line, at):
    """What the quoted word stands for that begins at an index, and the index behind it."""
    signs = []
    at += 1
    while line[at:at + 1] != _QUOTE:
        if line[at:at + 1] == _SLASH:
            at += 1
            if line[at:at + 1] not in ("", _QUOTE, _SLASH):
                raise ParseError(at)
        if at >= len(line):
            raise ParseError(len(line))
        signs.append(line[at])
        at += 1
    return "".join(signs), at + 1


def _shown(reply):
    """What `show` returns, with a reply."""
    if reply in (DONE, NONE):
        return reply[0]
    word, told = reply
    if word == "text":
        return _quoted(told)
    if word == "number":
        return text_of(told)
    if word == "error":
        return f"!{told}"
    members = ", ".join([_shown(member) for member in told])
    return f"[{members}]"


def _reply_at(shown, at, deep):
    """What may be the reply whose shown text begins at an index, and the index behind it."""
    sign = shown[at:at + 1]
    if sign == "[":
        return _list_at(shown, at, deep)
    if sign == _QUOTE:
        text, end = _quoted_at(shown, at)
        return ("text", text), end
    ends = [end for end in (shown.find(",", at), shown.find("]", at)) if end >= 0]
    end = min([*ends, len(shown)])
    return _simple_reply(shown[at:end]), end


def _simple_reply(told):
    """What may be the reply with a shown text that is neither a list's nor a text's."""
    if told in ("done", "none"):
        return (told,)
    if told.startswith("!"):
        return ("error", told[1:])
    return ("number", number_of(told) if is_text(told) else None)


def _list_at(shown, at, deep):
    """What may be the list whose shown text begins at an index, and the index behind it."""
    if deep == 0:
        raise ParseError(at)
    replies = []
    at += 1
    while shown[at:at + 1] != "]":
        reply, at = _reply_at(shown, at, deep - 1)
        replies.append(reply)
        if shown[at:at + 2] == ", ":
            at += 2
        elif shown[at:at + 1] != "]":
            raise ParseError(at)
    return ("list", tuple(replies)), at + 1
