"""Plain values, entries and plain stores, and the shapes and sizes of their values."""

from deedline.base.words import are_texts, check_key, is_key, is_text, is_time
from deedline.errors import InvalidOperation, InvalidStore
from deedline.shape.maps import Fields, is_text_pair
from deedline.shape.packs import MAX_MEMBERS, Pack, check_bounds
from deedline.shape.sets import Members
from deedline.shape.skips import is_score_pair
from deedline.shape.sorts import Scores

KINDS = ("list", "map", "set", "sorted", "text")
MAX_KEYS = 200
KEY_SIZE = 16
# What a member takes besides its own signs.
_TEXT_SIZE = 2
_SCORE_SIZE = 10
_PAIR_SIZE = 4


def is_plain(kind, value):
    """Whether the value is a plain value of a kind."""
    _check_kind(kind)
    if kind == "text":
        return is_text(value)
    if not isinstance(value, tuple) or not 1 <= len(value) <= MAX_MEMBERS:
        return False
    if kind == "list":
        return are_texts(value)
    if kind == "set":
        return are_texts(value) and _does_ascend(value)
    if kind == "sorted":
        return _are_scores(value)
    return _are_fields(value)


def is_entry(value):
    """Whether the value is an entry."""
    if not isinstance(value, tuple) or len(value) != 3:
        return False
    kind, told, until = value
    return kind in KINDS and is_plain(kind, told) and (until is None or is_time(until))


def is_store(value):
    """Whether the value is a plain store."""
    if not isinstance(value, dict) or len(value) > MAX_KEYS:
        return False
    return all([is_key(key) and is_entry(entry) for key, entry in value.items()])


def check_entry(entry):
    """Raises InvalidStore if it is no entry."""
    if not is_entry(entry):
        raise InvalidStore("no entry")


def check_store(entries):
    """Raises InvalidStore if it is no plain store."""
    if not is_store(entries):
        raise InvalidStore("no plain store")


def shaped(bounds, kind, value):
    """The shaped value of a plain value of a kind."""
    check_bounds(bounds)
    _check_plain(kind, value)
    if kind == "list":
        return Pack(bounds, value)
    if kind == "set":
        return Members(bounds, value)
    if kind == "sorted":
        return Scores(bounds, value)
    if kind == "map":
        return Fields(bounds, value)
    return value


def is_shaped(value):
    """Whether the value is a shaped value."""
    return is_text(value) or isinstance(value, (Pack, Members, Scores, Fields))


def kind_of(thing):
    """The kind of a shaped value."""
    _check_shaped(thing)
    if isinstance(thing, Pack):
        return "list"
    if isinstance(thing, Members):
        return "set"
    if isinstance(thing, Scores):
        return "sorted"
    if isinstance(thing, Fields):
        return "map"
    return "text"


def plain_of(thing):
    """The plain value of a shaped value, or () if it has no members."""
    _check_shaped(thing)
    return thing if isinstance(thing, str) else thing.plain


def shape_of(thing):
    """The shape word of a shaped value."""
    _check_shaped(thing)
    if isinstance(thing, str):
        return "text"
    return "nodes" if isinstance(thing, Pack) else thing.shape


def value_size(kind, value):
    """The size of a plain value of a kind."""
    _check_plain(kind, value)
    return _held_value_size(kind, value)


def _held_value_size(kind, value):
    """What `value_size` returns, with arguments that are right."""
    if kind == "text":
        return len(value)
    if kind == "sorted":
        return sum([len(member) + _SCORE_SIZE for _, member in value])
    if kind == "map":
        return sum([len(field) + len(text) + _PAIR_SIZE for field, text in value])
    return sum([len(text) + _TEXT_SIZE for text in value])


def entry_size(key, entry):
    """The size of a key with its entry."""
    check_key(key)
    check_entry(entry)
    return held_size(key, entry)


def held_size(key, entry):
    """What `entry_size` returns, with arguments that are right."""
    kind, value, _ = entry
    return _held_value_size(kind, value) + len(key) + KEY_SIZE


def store_size(entries):
    """The size of a plain store."""
    check_store(entries)
    return sum([held_size(key, entry) for key, entry in entries.items()])


def _check_kind(kind):
    """Raises InvalidOperation if it is none of the five words."""
    if kind not in KINDS:
        raise InvalidOperation("no kind")


def _check_plain(kind, value):
    """Raises InvalidOperation if it is no kind, then if the value is no plain value of it."""
    if not is_plain(kind, value):
        raise InvalidOperation("no plain value of this kind")


def _check_shaped(thing):
    """Raises InvalidOperation if it is no shaped value."""
    if not is_shaped(thing):
        raise InvalidOperation("no shaped value")


def _does_ascend(row):
    """Whether each member of a row is less than the next one."""
    return all([row[at - 1] < row[at] for at in range(1, len(row))])


def _are_scores(row):
    """Whether a tuple has ascending pairs (score, member) with different members."""
    if not all([is_score_pair(pair) for pair in row]) or not _does_ascend(row):
        return False
    return len(set([member for _, member in row])) == len(row)


def _are_fields(row):
    """Whether a tuple has pairs (field, text) with ascending fields."""
    return all([is_text_pair(pair) for pair in row]) and _does_ascend([field for field, _ in row])
