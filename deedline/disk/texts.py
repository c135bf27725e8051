"""The texts of logs and snapshots, and what they tell when they are read back."""

from deedline.base.hashes import check_signs, sum_of
from deedline.base.words import are_texts, is_text, is_within, number_of, text_of
from deedline.errors import InvalidOperation, ParseError
from deedline.plain.store import MAX_PLACE, check_snapshot, check_unit, is_line, is_snapshot, is_unit

HEAD = "deedline 1 "
MAX_BRANCH = 20
_NO_UNTIL = "-"
# The most digits of a number in a head line or a block: those of the greatest time.
_MAX_DIGITS = 16


def is_branch(value):
    """Whether the value is a branch."""
    if not isinstance(value, tuple) or not 1 <= len(value) <= MAX_BRANCH:
        return False
    if not all([_is_pair(pair) for pair in value]) or value[0] != (0, 0):
        return False
    pairs = [(value[at - 1], value[at]) for at in range(1, len(value))]
    return all([one[0] < other[0] and one[1] <= other[1] for one, other in pairs])


def check_branch(branch):
    """Raises InvalidOperation if it is no branch."""
    if not is_branch(branch):
        raise InvalidOperation("no branch")


def row_text(row):
    """The text of a row."""
    if not are_texts(row) or not row:
        raise InvalidOperation("no row")
    return _row_text(row)


def rows_of(signs):
    """The tuple of the rows of which some signs are made."""
    check_signs(signs)
    rows = []
    at = 0
    while at < len(signs):
        row, end = _row_at(signs, at)
        if row is None:
            raise ParseError(at)
        rows.append(row)
        at = end
    return tuple(rows)


def block_text(unit):
    """The block of a unit."""
    check_unit(unit)
    time, deeds = unit
    body = "".join([_row_text(deed) for deed in deeds])
    return _line_text([text_of(time)], body)


def read_blocks(signs):
    """The units of the first blocks, and how many signs these blocks have."""
    check_signs(signs)
    units, good = _blocks_from(signs, 0, 0)
    return units, good


def snapshot_text(snapshot):
    """The text of a snapshot."""
    check_snapshot(snapshot)
    entries, place, time = snapshot
    body = "".join([_entry_text(key, entries[key]) for key in sorted(entries)])
    return _line_text([text_of(time), text_of(place)], body)


def read_snapshot(signs):
    """The snapshot with just this text."""
    check_signs(signs)
    snapshot, end = _snapshot_at(signs, 0)
    if snapshot is None or end < len(signs):
        raise ParseError("snapshot")
    return snapshot


def head_text(branch):
    """The head line of a log."""
    pairs = ",".join([f"{number}@{place}" for number, place in branch])
    return f"{HEAD}{pairs}\n"


def log_text(branch, snapshot, units):
    """A log."""
    check_branch(branch)
    check_snapshot(snapshot)
    if not is_line(units) or units and units[0][0] < snapshot[2]:
        raise InvalidOperation("no line, or one that begins ahead of the snapshot")
    blocks = "".join([block_text(unit) for unit in units])
    return head_text(branch) + snapshot_text(snapshot) + blocks


def read_log(signs):
    """The branch, the snapshot and the units of a log, and how many signs all these have."""
    check_signs(signs)
    branch, end = _head_at(signs)
    if branch is None:
        raise ParseError("head")
    snapshot, end = _snapshot_at(signs, end)
    if snapshot is None:
        raise ParseError("snapshot")
    units, good = _blocks_from(signs, end, snapshot[2])
    return branch, snapshot, units, good


def _is_pair(value):
    if not isinstance(value, tuple) or len(value) != 2:
        return False
    return is_within(value[0], 0, MAX_PLACE) and is_within(value[1], 0, MAX_PLACE)


def _row_text(row):
    return "".join([f"{len(text)}:{text}" for text in row]) + ";"


def _line_text(numbers, body):
    """The line with some texts of numbers and a body."""
    ahead = " ".join(numbers)
    total = sum_of(f"{ahead};{body}")
    return f"{len(body)} {total} {ahead};{body}\n"


def _row_at(signs, at):
    """The row that begins at an index, and the index behind it. The row is None if there is none."""
    row = []
    while signs[at:at + 1] != ";":
        text, at = _text_at(signs, at)
        if text is None:
            return None, at
        row.append(text)
    return (tuple(row), at + 1) if row else (None, at)


def _text_at(signs, at):
    """The text of a row that begins at an index, and the index behind it."""
    # A text has at most three digits ahead of it.
    colon = signs.find(":", at, at + 4)
    many = None if colon < 0 else _number_in(signs[at:colon])
    if many is None:
        return None, at
    end = colon + 1 + many
    text = signs[colon + 1:end]
    if len(text) < many or not is_text(text):
        return None, at
    return text, end


def _number_in(text):
    """The number of at least 0 with a text, or None."""
    if not is_text(text) or len(text) > _MAX_DIGITS:
        return None
    number = number_of(text)
    return None if number is None or number < 0 else number


def _line_at(signs, at):
    """The line that begins at an index, with its newline; "" if there is no newline."""
    end = signs.find("\n", at)
    return signs[at:end + 1]


def _parts_of(line, many):
    """The numbers behind the sum of a line, so many, and its rows. Both are None if it is none.

    Whether length and sum are right is told by the text that is made of what was read.
    """
    ahead, mark, rest = line.partition(";")
    words = ahead.split(" ")
    if not mark or len(words) != many + 2 or not rest.endswith("\n"):
        return None, None
    numbers = [_number_in(word) for word in words[2:]]
    if None in numbers:
        return None, None
    try:
        return numbers, rows_of(rest[:-1])
    except ParseError:
        return None, None


def _blocks_from(signs, at, time):
    """The units of the blocks from an index on, the first one not ahead of a time, and the index behind them."""
    units = []
    while at < len(signs):
        line = _line_at(signs, at)
        unit = _unit_of(line)
        if unit is None or unit[0] < time:
            break
        units.append(unit)
        time = unit[0]
        at += len(line)
    return tuple(units), at


def _unit_of(line):
    """The unit with just this block, or None."""
    numbers, rows = _parts_of(line, 1)
    if numbers is None:
        return None
    unit = (numbers[0], rows)
    return unit if is_unit(unit) and block_text(unit) == line else None


def _entry_text(key, entry):
    """The row of a key with its entry."""
    kind, value, until = entry
    if kind == "text":
        texts = [value]
    elif kind == "sorted":
        texts = [text for score, member in value for text in (text_of(score), member)]
    elif kind == "map":
        texts = [text for pair in value for text in pair]
    else:
        texts = list(value)
    return _row_text([key, kind, _NO_UNTIL if until is None else text_of(until), *texts])


def _entry_of(row):
    """The key and what may be its entry, which a row tells; None if it tells none."""
    if len(row) < 4:
        return None
    key, kind, until, *texts = row
    told = None if until == _NO_UNTIL else number_of(until)
    pairs = [(texts[at], texts[at + 1]) for at in range(0, len(texts) - 1, 2)]
    if kind == "text":
        value = texts[0]
    elif kind == "sorted":
        value = tuple([(number_of(score), member) for score, member in pairs])
    elif kind == "map":
        value = tuple(pairs)
    else:
        value = tuple(texts)
    return key, (kind, value, told)


def _snapshot_at(signs, at):
    """The snapshot whose text begins at an index, and the index behind it. It is None if there is none."""
    line = _line_at(signs, at)
    numbers, rows = _parts_of(line, 2)
    pairs = [] if numbers is None else [_entry_of(row) for row in rows]
    if numbers is None or None in pairs:
        return None, at
    time, place = numbers
    snapshot = ({key: entry for key, entry in pairs}, place, time)
    # What was read need not be what was written: a key told twice, say, or a text too many.
    if not is_snapshot(snapshot) or snapshot_text(snapshot) != line:
        return None, at
    return snapshot, at + len(line)


def _head_at(signs):
    """The branch of the head line with which signs begin, and the index behind it."""
    line = _line_at(signs, 0)
    if not line.startswith(HEAD):
        return None, 0
    pairs = [_pair_of(text) for text in line[len(HEAD):-1].split(",")]
    branch = tuple(pairs)
    if not is_branch(branch) or head_text(branch) != line:
        return None, 0
    return branch, len(line)


def _pair_of(text):
    """The pair of two numbers that a text tells, or None."""
    number, _, place = text.partition("@")
    one, other = _number_in(number), _number_in(place)
    return None if one is None or other is None else (one, other)
