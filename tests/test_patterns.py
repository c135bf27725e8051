"""Stage 2: patterns."""

import itertools

from deedline.base.patterns import does_fit, fitting, fixed_start, parts_of
from deedline.errors import InvalidOperation, InvalidText
from tests.helpers import SIGNS, Case, chance, is_plain_text, not_texts, values

HARD = "ab-]^[*?\\"


def plain_parts(pattern):
    """For each part "any", or the set of the signs for which it stands."""
    parts = []
    while pattern:
        sign, rest = pattern[0], pattern[1:]
        part = {sign}
        if sign == "*":
            part = "any"
        elif sign == "?":
            part = set(SIGNS)
        elif sign == "\\" and rest:
            part, rest = {rest[0]}, rest[1:]
        elif sign == "[":
            turned = rest.startswith("^")
            inner = rest[1:] if turned else rest
            if inner and "]" in inner[1:]:
                signs, rest = inner[0] + inner[1:].split("]", 1)[0], inner[1:].split("]", 1)[1]
                part = set(SIGNS) - plain_class(signs) if turned else plain_class(signs)
        parts.append(part)
        pattern = rest
    return parts


def plain_class(signs):
    """The signs that a class has."""
    if len(signs) >= 3 and signs[1] == "-":
        low, high = sorted((ord(signs[0]), ord(signs[2])))
        return {chr(code) for code in range(low, high + 1)} | plain_class(signs[3:])
    return {signs[0]} | plain_class(signs[1:]) if signs else set()


def do_parts_fit(parts, text):
    """Whether parts fit a text: all places in the parts that can be reached, sign by sign."""
    def closed(places):
        for place in list(places):
            while place < len(parts) and parts[place] == "any":
                place += 1
                places.add(place)
        return places
    places = closed({0})
    for sign in text:
        places = closed({
            place if parts[place] == "any" else place + 1
            for place in places if place < len(parts) and (parts[place] == "any" or sign in parts[place])
        })
    return len(parts) in places


class Parts(Case):
    def test_plain_parts(self):
        self.assertEqual(parts_of(""), ())
        self.assertEqual(parts_of("a*?"), (("sign", "a"), ("any",), ("one",)))
        self.assertEqual(parts_of("**"), (("any",), ("any",)))
        self.assertEqual(parts_of("]^-"), (("sign", "]"), ("sign", "^"), ("sign", "-")))

    def test_backslashes(self):
        self.assertEqual(parts_of("\\*\\?\\[\\\\\\a"), tuple(("sign", sign) for sign in "*?[\\a"))
        self.assertEqual(parts_of("a\\"), (("sign", "a"), ("sign", "\\")))
        self.assertEqual(parts_of("\\"), (("sign", "\\"),))
        self.assertEqual(parts_of("\\[a]"), (("sign", "["), ("sign", "a"), ("sign", "]")))

    def test_classes(self):
        def one(*ranges):
            return (("class", ranges, False),)
        self.assertEqual(parts_of("[a]"), one(("a", "a")))
        self.assertEqual(parts_of("[ba]"), one(("a", "a"), ("b", "b")))
        self.assertEqual(parts_of("[aaa]"), one(("a", "a")))
        self.assertEqual(parts_of("[a-c]"), one(("a", "c")))
        self.assertEqual(parts_of("[c-a]"), one(("a", "c")))
        self.assertEqual(parts_of("[c-aa-c]"), one(("a", "c")))
        self.assertEqual(parts_of("[a-cb]"), one(("a", "c"), ("b", "b")))
        self.assertEqual(parts_of("[a-ca]"), one(("a", "a"), ("a", "c")))
        self.assertEqual(parts_of("[a-c-e]"), one(("-", "-"), ("a", "c"), ("e", "e")))
        self.assertEqual(parts_of("[a-]"), one(("-", "-"), ("a", "a")))
        self.assertEqual(parts_of("[-a]"), one(("-", "-"), ("a", "a")))
        self.assertEqual(parts_of("[-]"), one(("-", "-")))
        self.assertEqual(parts_of("[--a]"), one(("-", "a")))
        self.assertEqual(parts_of("[a--]"), one(("-", "a")))
        self.assertEqual(parts_of("[---]"), one(("-", "-")))
        self.assertEqual(parts_of("[*?[\\]"), one(("*", "*"), ("?", "?"), ("[", "["), ("\\", "\\")))
        self.assertEqual(parts_of("[a^]"), one(("^", "^"), ("a", "a")))

    def test_the_first_sign_of_a_class_never_ends_it(self):
        self.assertEqual(parts_of("[]]"), (("class", (("]", "]"),), False),))
        self.assertEqual(parts_of("[]a]"), (("class", (("]", "]"), ("a", "a")), False),))
        self.assertEqual(parts_of("[]-a]"), (("class", (("]", "a"),), False),))
        self.assertEqual(parts_of("[a-]b"), (("class", (("-", "-"), ("a", "a")), False), ("sign", "b")))
        self.assertEqual(parts_of("[a]]"), (("class", (("a", "a"),), False), ("sign", "]")))

    def test_inverted_classes(self):
        self.assertEqual(parts_of("[^a]"), (("class", (("a", "a"),), True),))
        self.assertEqual(parts_of("[^]]"), (("class", (("]", "]"),), True),))
        self.assertEqual(parts_of("[^^]"), (("class", (("^", "^"),), True),))
        self.assertEqual(parts_of("[^^-a]"), (("class", (("^", "a"),), True),))

    def test_classes_without_an_end(self):
        for pattern in ("[", "[a", "[]", "[^", "[^]", "[^a", "[a-c", "[\\"):
            self.assertEqual(parts_of(pattern), tuple(("sign", sign) for sign in pattern))
        self.assertEqual(parts_of("[]*"), (("sign", "["), ("sign", "]"), ("any",)))
        self.assertEqual(parts_of("[\\a"), (("sign", "["), ("sign", "a")))
        self.assertEqual(parts_of("[[a]"), (("class", (("[", "["), ("a", "a")), False),))
        self.assertEqual(parts_of("[]["), (("sign", "["), ("sign", "]"), ("sign", "[")))

    def test_long_patterns(self):
        self.assertEqual(parts_of("?" * 200), (("one",),) * 200)
        self.refused(InvalidText, "?" * 201, parts_of, "?" * 201)


class Fitting(Case):
    def test_ordinary_ones(self):
        for pattern, text, told in (
            ("", "", True), ("", "a", False), ("a", "", False), ("*", "", True), ("*", "abc", True), ("?", "", False),
            ("?", "a", True), ("?", "ab", False), ("a*c", "ac", True), ("a*c", "abbc", True), ("a*c", "abcb", False),
            ("*a*b", "xaxab", True), ("*ab*ab*", "abab", True), ("*ab*ab*", "aab", False), ("a[b-d]e", "ace", True),
            ("a[^b-d]e", "ace", False), ("a[^b-d]e", "axe", True), ("a[^b-d]e", "ae", False), ("\\*", "*", True),
            ("\\*", "a", False), ("a\\", "a\\", True), ("[", "[", True), ("[^", "[^", True), ("A", "a", False),
        ):
            self.assertIs(does_fit(pattern, text), told, (pattern, text))

    def test_every_short_pattern_beside_a_plain_one(self):
        texts = tuple("".join(signs) for size in range(3) for signs in itertools.product("ab-]^[\\", repeat=size))
        for size in range(5):
            for signs in itertools.product(HARD, repeat=size):
                pattern = "".join(signs)
                parts = plain_parts(pattern)
                told = tuple(text for text in texts if do_parts_fit(parts, text))
                self.assertEqual(fitting(pattern, texts), told, pattern)

    def test_long_patterns_beside_a_plain_one(self):
        pick = chance(1)
        for _ in range(3000):
            pattern = "".join(pick.choice(HARD + "c") for _ in range(pick.randrange(14)))
            parts = plain_parts(pattern)
            text = "".join(
                "".join(pick.choices("abc-]^[", k=pick.randrange(3))) if part == "any"
                else pick.choice(sorted(part) or ["a"]) for part in parts
            )
            other = "".join(pick.choices("abc-", k=pick.randrange(9)))
            self.assertIs(does_fit(pattern, text), do_parts_fit(parts, text), (pattern, text))
            self.assertIs(does_fit(pattern, other), do_parts_fit(parts, other), (pattern, other))
            for one in (text, other):
                if does_fit(pattern, one):
                    self.assertTrue(one.startswith(fixed_start(pattern)))

    def test_it_does_not_run_long(self):
        self.assertIs(does_fit("*a" * 100, "a" * 99 + "b" * 101), False)
        self.assertIs(does_fit("*a" * 99 + "*b", "a" * 200), False)
        self.assertIs(does_fit("*a" * 99 + "*b", "a" * 199 + "b"), True)

    def test_values_that_are_no_text(self):
        for value in values():
            self.assertIs(does_fit("*", value), is_plain_text(value))
            self.assertIs(does_fit("[^b]", value), is_plain_text(value) and len(value) == 1)
        self.assertIs(does_fit("*", "a" * 200), True)
        self.assertIs(does_fit("*", "a" * 201), False)

    def test_fitting_keeps_order_and_repeats(self):
        self.assertEqual(fitting("a*", ("b", "ab", "a", "ba", "ab")), ("ab", "a", "ab"))
        self.assertEqual(fitting("a*", ()), ())

    def test_fixed_starts(self):
        for pattern, start in (("", ""), ("ab", "ab"), ("ab*c", "ab"), ("*ab", ""), ("a?b", "a"), ("a[b]c", "a"),
                               ("a\\*b*", "a*b"), ("a[b", "a[b"), ("a\\", "a\\"), ("[]a*", "[]a")):
            self.assertEqual(fixed_start(pattern), start)

    def test_refused(self):
        for value in not_texts():
            for call in (parts_of, fixed_start):
                self.refused(InvalidText, value, call, value)
            for other in ("a", None, ("a",)):
                self.refused(InvalidText, value, does_fit, value, other)
                self.refused(InvalidText, value, fitting, value, other)
            self.refused(InvalidOperation, None, fitting, "*", ("a", value))
        for value in values():
            if type(value) is not tuple or not all(is_plain_text(text) for text in value):
                self.refused(InvalidOperation, None, fitting, "*", value)
