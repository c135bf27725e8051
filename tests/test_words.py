"""Stage 2: words and numbers."""

from deedline.base import words
from deedline.base.words import clipped, is_command, is_key, is_text, is_time, is_whole, number_of, text_of
from deedline.errors import InvalidNumber, InvalidText
from tests.helpers import LEAST, MOST, SIGNS, Case, is_plain_integer, is_plain_text, not_integers, not_texts
from tests.helpers import not_wholes, values


class Constants(Case):
    def test_constants(self):
        self.assertEqual((words.MAX_TEXT, words.MAX_KEY, words.MAX_WORDS), (200, 40, 64))
        self.assertEqual(words.MAX_TIME, 1000000000000000)
        self.assertEqual((words.LEAST, words.MOST), (LEAST, MOST))


class Kinds(Case):
    def test_signs(self):
        self.assertEqual(len(SIGNS), 95)
        for code in range(0, 300):
            self.assertIs(is_text(chr(code)), 32 <= code <= 126)
            self.assertIs(is_text("a" + chr(code)), 32 <= code <= 126)
        self.assertIs(is_text(SIGNS), True)

    def test_texts(self):
        for text, told in (("", True), ("a" * 200, True), ("a" * 201, False), ("\u0660", False), ("\u3000", False)):
            self.assertIs(is_text(text), told)

    def test_keys(self):
        for text, told in (("", False), (" ", True), ("a" * 40, True), ("a" * 41, False), ("a\n", False)):
            self.assertIs(is_key(text), told)

    def test_times(self):
        for number, told in ((0, True), (-1, False), (10 ** 15, True), (10 ** 15 + 1, False)):
            self.assertIs(is_time(number), told)

    def test_whole_numbers(self):
        for number, told in ((0, True), (LEAST, True), (LEAST - 1, False), (MOST, True), (MOST + 1, False)):
            self.assertIs(is_whole(number), told)

    def test_commands(self):
        good = [("get",), ("",), ("get", "a"), ("a",) * 64, ("a" * 200,), ("",) * 64]
        bad = [(), ("a",) * 65, ("a" * 201,), ("a", "b\n"), ("a", 1), ("a", True), ["a"], "a", (("a",),)]
        for value in good:
            self.assertIs(is_command(value), True)
        for value in bad:
            self.assertIs(is_command(value), False)

    def test_every_value_is_taken(self):
        for value in values():
            self.assertIs(is_text(value), is_plain_text(value))
            self.assertIs(is_key(value), is_plain_text(value) and 1 <= len(value) <= 40)
            self.assertIs(is_time(value), is_plain_integer(value, 0, 10 ** 15))
            self.assertIs(is_whole(value), is_plain_integer(value, LEAST, MOST))
            all_texts = type(value) is tuple and all(is_plain_text(text) for text in value)
            self.assertIs(is_command(value), all_texts and 1 <= len(value) <= 64)


class Numbers(Case):
    def test_there_and_back(self):
        for number in [*range(-1200, 1200), LEAST, LEAST + 1, MOST - 1, MOST, 10 ** 18, -(10 ** 18)]:
            text = text_of(number)
            self.assertEqual(text, "%d" % number)
            self.assertEqual(number_of(text), number)

    def test_texts_of_no_number(self):
        for text in ("", "-", "-0", "00", "007", "-01", "+1", "+0", " 1", "1 ", "1.0", "1e3", "1_0", "--1", "1-", "a",
                     "0x1", str(LEAST - 1), str(MOST + 1), "9" * 200, "-" + "9" * 199, "0" * 200, "1" + "0" * 199):
            self.assertIsNone(number_of(text), text)

    def test_zero_is_an_integer(self):
        self.assertEqual(number_of("0"), 0)
        self.assertIs(type(number_of("0")), int)

    def test_refused(self):
        for value in not_texts():
            self.refused(InvalidText, value, number_of, value)
        for value in not_wholes():
            self.refused(InvalidNumber, value, text_of, value)


class Clipped(Case):
    def test_beside_a_plain_row(self):
        for total in range(0, 7):
            row = list(range(total))
            for first in range(-9, 10):
                for last in range(-9, 10):
                    start, end = clipped(first, last, total)
                    low = first + total if first < 0 else first
                    high = last + total if last < 0 else last
                    told = [member for member in row if low <= member <= high]
                    self.assertEqual(row[start:end], told, (first, last, total))
                    if not told:
                        self.assertEqual((start, end), (0, 0))

    def test_edges(self):
        self.assertEqual(clipped(0, -1, 1000), (0, 1000))
        self.assertEqual(clipped(LEAST, MOST, 1000), (0, 1000))
        self.assertEqual(clipped(MOST, LEAST, 1000), (0, 0))
        self.assertEqual(clipped(-1, -1, 3), (2, 3))
        self.assertEqual(clipped(3, 3, 3), (0, 0))
        self.assertEqual(clipped(0, -1, 0), (0, 0))

    def test_refused(self):
        for value in not_wholes():
            self.refused(InvalidNumber, value, clipped, value, 0, 1)
            self.refused(InvalidNumber, value, clipped, value, None, None)
            self.refused(InvalidNumber, value, clipped, 0, value, 1)
            self.refused(InvalidNumber, value, clipped, 0, value, -1)
        for value in not_integers(0, 1000):
            self.refused(InvalidNumber, value, clipped, 0, 0, value)
