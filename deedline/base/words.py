"""Texts, keys, times, whole numbers and commands, and the checks that arguments are such."""

from deedline.errors import InvalidCommand, InvalidNumber, InvalidText, InvalidTime

MAX_TEXT = 200
MAX_KEY = 40
MAX_WORDS = 64
MAX_TIME = 10 ** 15
LEAST = -(2 ** 63)
MOST = 2 ** 63 - 1
_MAX_TOTAL = 1000


def is_within(value, least, most):
    """Whether the value is an integer from `least` to `most`."""
    return isinstance(value, int) and not isinstance(value, bool) and least <= value <= most


def is_count(value, least=0):
    """Whether the value is an integer of at least so much."""
    return isinstance(value, int) and not isinstance(value, bool) and value >= least


def is_printed(value):
    """Whether the value is a string of signs, as long as it may be."""
    # Among the ASCII characters, just the 95 signs are printable.
    return isinstance(value, str) and value.isascii() and value.isprintable()


def is_text(value):
    """Whether the value is a text."""
    return is_printed(value) and len(value) <= MAX_TEXT


def is_key(value):
    """Whether the value is a key."""
    return is_text(value) and 1 <= len(value) <= MAX_KEY


def is_time(value):
    """Whether the value is a time."""
    return is_within(value, 0, MAX_TIME)


def is_whole(value):
    """Whether the value is a whole number."""
    return is_within(value, LEAST, MOST)


def are_texts(value):
    """Whether the value is a tuple of texts."""
    return isinstance(value, tuple) and all([is_text(text) for text in value])


def is_command(value):
    """Whether the value is a command."""
    return are_texts(value) and 1 <= len(value) <= MAX_WORDS


def check_text(text):
    """Raises InvalidText if it is no text."""
    if not is_text(text):
        raise InvalidText(text)


def check_key(key):
    """Raises InvalidText if it is no key."""
    if not is_key(key):
        raise InvalidText(key)


def check_time(now):
    """Raises InvalidTime if it is no time."""
    if not is_time(now):
        raise InvalidTime(now)


def check_not_ahead(now, time):
    """Raises InvalidTime if it is no time, or less than another one."""
    check_time(now)
    if now < time:
        raise InvalidTime(now)


def check_command(command):
    """Raises InvalidCommand if it is no command."""
    if not is_command(command):
        raise InvalidCommand("no command")


def check_whole(number):
    """Raises InvalidNumber if it is no whole number."""
    if not is_whole(number):
        raise InvalidNumber(number)


def check_within(number, least, most):
    """Raises InvalidNumber if it is no integer from `least` to `most`."""
    if not is_within(number, least, most):
        raise InvalidNumber(number)


def check_count(number, least=0):
    """Raises InvalidNumber if it is no integer of at least so much."""
    if not is_count(number, least):
        raise InvalidNumber(number)


def number_of(text):
    """The whole number with this text, or None."""
    check_text(text)
    if not text.removeprefix("-").isdigit():
        return None
    number = int(text)
    # Needless zeros and "-0" are lost on the way to the number and back.
    if is_whole(number) and str(number) == text:
        return number
    return None


def text_of(number):
    """The text of a whole number."""
    check_whole(number)
    return str(number)


def clipped(first, last, total):
    """The pair (start, end) of the members that are told of a row of `total` members."""
    check_whole(first)
    check_whole(last)
    check_within(total, 0, _MAX_TOTAL)
    start = max(0, _from_front(first, total))
    final = min(_from_front(last, total), total - 1)
    if start > final:
        return (0, 0)
    return (start, final + 1)


def _from_front(index, total):
    return index + total if index < 0 else index
