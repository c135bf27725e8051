"""Hashes of texts, their spots, and check sums."""

from deedline.base.words import check_count, check_text, check_within, is_printed
from deedline.errors import InvalidNumber, InvalidText

HASH_BITS = 16
SUM_MODULUS = 99991
_HASH_MODULUS = 2 ** 16
_MAX_BITS = 64


def hash_of(text):
    """The hash of a text."""
    check_text(text)
    code = 0
    for sign in text:
        code = (code * 33 + ord(sign)) % _HASH_MODULUS
    return code


def spot_of(text):
    """The spot of a text."""
    return reversed_bits(hash_of(text), HASH_BITS)


def sum_of(signs):
    """The check sum of printable signs and newlines."""
    check_signs(signs)
    total = sum([ord(sign) * (at + 1) for at, sign in enumerate(signs)])
    return total % SUM_MODULUS


def are_signs(value):
    """Whether the value is a string of printable signs and newlines."""
    return isinstance(value, str) and is_printed(value.replace("\n", ""))


def check_signs(signs):
    """Raises InvalidText if it is no string of printable signs and newlines."""
    if not are_signs(signs):
        raise InvalidText(signs)


def reversed_bits(value, bits):
    """The number whose binary digits, just so many, stand in the opposite order."""
    _check_bits(value, bits, _MAX_BITS)
    turned = 0
    for at in range(bits):
        turned = turned * 2 + (value >> at & 1)
    return turned


def bucket_spots(bucket, bits):
    """The pair of the first and the last spot of a bucket, one of 2 ** bits."""
    _check_bits(bucket, bits, HASH_BITS)
    width = 1 << (HASH_BITS - bits)
    first = reversed_bits(bucket, bits) * width
    return (first, first + width - 1)


def _check_bits(value, bits, most):
    """Raises InvalidNumber if the value has not just so many bits, or they are more than told."""
    check_count(value)
    check_within(bits, 0, most)
    if value >= 1 << bits:
        raise InvalidNumber(value)
