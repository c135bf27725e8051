"""Bounds of scores and of texts, and what lies between two of them.

A bound that was read is a triple (side, edge, is_let): the side is -1 for the bound below all, 1 for
the one above all, and otherwise 0, with the score or the text at which it lies.
"""

from deedline.base.words import number_of

_ENDS = {"-": (-1, None, False), "+": (1, None, False)}


def score_bound(text):
    """A bound of scores, read from its text."""
    if text in _ENDS:
        return _ENDS[text]
    return (0, number_of(text.removeprefix("(")), not text.startswith("("))


def text_bound(text):
    """A bound of texts, read from its text."""
    if text in _ENDS:
        return _ENDS[text]
    return (0, text[1:], text.startswith("["))


def is_between(worth, low, high):
    """Whether a score or a text lies between two bounds."""
    return _is_above(worth, low) and _is_below(worth, high)


def _is_above(worth, bound):
    side, edge, is_let = bound
    if side != 0:
        return side < 0
    return worth > edge or is_let and worth == edge


def _is_below(worth, bound):
    side, edge, is_let = bound
    if side != 0:
        return side > 0
    return worth < edge or is_let and worth == edge
