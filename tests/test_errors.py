"""Stage 1: errors."""

from deedline import errors
from tests.helpers import Case, values

BASES = {
    "DeedError": ValueError, "InvalidText": errors.DeedError, "InvalidCommand": errors.DeedError,
    "InvalidStore": errors.DeedError, "InvalidOperation": errors.DeedError, "ParseError": errors.DeedError,
    "InvalidTime": ArithmeticError, "InvalidNumber": ArithmeticError, "TooMany": OverflowError,
    "UnknownName": KeyError, "BadLetters": IndexError, "PowerLost": RuntimeError, "Refused": LookupError,
}
ATTRIBUTES = {
    "InvalidText": "value", "InvalidTime": "value", "InvalidNumber": "value", "TooMany": "limit",
    "ParseError": "index", "BadLetters": "index", "UnknownName": "asked", "PowerLost": "count",
    "Refused": "reason",
}


class Errors(Case):
    def test_each_is_derived_directly_from_what_is_told(self):
        for name, base in BASES.items():
            self.assertEqual(getattr(errors, name).__bases__, (base,), name)

    def test_those_without_a_value_take_one_argument_or_none(self):
        for name in BASES:
            if name not in ATTRIBUTES:
                error = getattr(errors, name)
                error()
                for value in [*values(), "a" * 10 ** 6, 10 ** 5000]:
                    error(value)

    def test_the_others_keep_one_argument_of_any_kind_and_size(self):
        for name, attribute in ATTRIBUTES.items():
            for value in [*values(), "a" * 10 ** 6, 10 ** 5000]:
                self.assertIs(getattr(getattr(errors, name)(value), attribute), value)

    def test_they_are_raised_and_caught(self):
        for name, base in BASES.items():
            with self.assertRaises(base):
                raise getattr(errors, name)("a")
            is_deed = issubclass(getattr(errors, name), errors.DeedError)
            self.assertEqual(is_deed, base in (ValueError, errors.DeedError))
