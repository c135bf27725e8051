"""Patterns of texts."""

from deedline.base.words import are_texts, check_text, is_text
from deedline.errors import InvalidOperation

_ANY = ("any",)
_ONE = ("one",)


def parts_of(pattern):
    """The tuple of the parts of a pattern."""
    check_text(pattern)
    parts = []
    at = 0
    while at < len(pattern):
        part, at = _part_at(pattern, at)
        parts.append(part)
    return tuple(parts)


def _part_at(pattern, at):
    """The part that begins at an index, and the index behind it."""
    sign = pattern[at]
    if sign == "*":
        return _ANY, at + 1
    if sign == "?":
        return _ONE, at + 1
    if sign == "\\" and at + 1 < len(pattern):
        return ("sign", pattern[at + 1]), at + 2
    if sign == "[":
        inverted = pattern[at + 1:at + 2] == "^"
        start = at + 2 if inverted else at + 1
        # The first sign of a class never ends it; if that sign lacks, so does an end behind it.
        end = pattern.find("]", start + 1)
        if end > 0:
            return ("class", _ranges_of(pattern[start:end]), inverted), end + 1
    return ("sign", sign), at + 1


def _ranges_of(signs):
    """The ascending tuple of the pairs (low, high) that the signs of a class name."""
    ranges = []
    at = 0
    while at < len(signs):
        is_range = at + 2 < len(signs) and signs[at + 1] == "-"
        last = at + 2 if is_range else at
        ranges.append((min(signs[at], signs[last]), max(signs[at], signs[last])))
        at = last + 1
    return tuple(sorted(set(ranges)))


def _stands_for(part, sign):
    """Whether a part, none for any signs, stands for a sign."""
    if part == _ONE:
        return True
    if part[0] == "sign":
        return part[1] == sign
    _, ranges, inverted = part
    return inverted != any([low <= sign <= high for low, high in ranges])


def _do_fit(parts, text):
    """Whether parts stand for the signs of a text."""
    at = index = 0
    # Behind the last "any" so far, and where the text was tried there.
    again = tried = -1
    while index < len(text):
        if at < len(parts) and parts[at] == _ANY:
            again, tried = at + 1, index
            at = again
        elif at < len(parts) and _stands_for(parts[at], text[index]):
            at, index = at + 1, index + 1
        elif again >= 0:
            # An earlier "any" need not be tried with more signs: the last one can take them.
            tried += 1
            at, index = again, tried
        else:
            return False
    return all([part == _ANY for part in parts[at:]])


def does_fit(pattern, value):
    """Whether the value is a text that a pattern fits."""
    parts = parts_of(pattern)
    return is_text(value) and _do_fit(parts, value)


def fitting(pattern, texts):
    """The tuple of those texts that a pattern fits."""
    parts = parts_of(pattern)
    if not are_texts(texts):
        raise InvalidOperation("no tuple of texts")
    return tuple([text for text in texts if _do_fit(parts, text)])


def fixed_start(pattern):
    """The signs with which each text begins that a pattern fits."""
    start = ""
    for part in parts_of(pattern):
        if part[0] != "sign":
            break
        start += part[1]
    return start
