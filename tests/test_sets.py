"""Stage 6: sets."""

from deedline.errors import InvalidOperation, InvalidText, TooMany
from deedline.shape.packs import Bounds
from deedline.shape.sets import Members, parted, shared, united
from deedline.shape.tables import Table
from tests.helpers import LEAST, MOST, Case, chance, not_of, not_texts

SOME = ("0", "-1", "7", "007", "-0", "a", "", "10", "2", str(LEAST), str(MOST), str(MOST + 1), "9" * 200)


def has_number(text):
    digits = text[1:] if text[:1] == "-" else text
    if not digits or any(sign not in "0123456789" for sign in digits):
        return False
    return LEAST <= int(text) <= MOST and text == "%d" % int(text)


class PlainMembers:
    """A set by the words of [6.1]: a Python set, and the table it would have."""

    def __init__(self, most):
        self.most, self.texts, self.table = most, set(), None

    def put(self, text):
        is_new = text not in self.texts
        if is_new and self.table is None and (not has_number(text) or len(self.texts) == self.most):
            self.table = Table()
            for one in sorted(self.texts):
                self.table.put(one, None)
        if self.table is not None:
            self.table.put(text, None)
        self.texts.add(text)
        return is_new

    def take(self, text):
        if self.table is not None:
            self.table.take(text)
        was_there = text in self.texts
        self.texts.discard(text)
        return was_there

    def has(self, text):
        if self.table is not None:
            self.table.get(text)
        return text in self.texts

    def told(self):
        plain = tuple(sorted(self.texts))
        if self.table is None:
            return ("row", tuple(sorted(int(text) for text in self.texts)), None, plain, len(plain))
        return ("table", None, self.table.counts(), plain, len(plain))


def told(members):
    return (members.shape, members.row, members.figures, members.plain, len(members))


class Shapes(Case):
    def test_rows(self):
        members = Members(Bounds(1, 1, 3, 0), ("10", "2", "-7", "2"))
        self.assertEqual(told(members), ("row", (-7, 2, 10), None, ("-7", "10", "2"), 3))
        self.assertIs(members.put("10"), False)
        self.assertEqual(members.shape, "row")
        self.assertIs(members.put("3"), True)
        self.assertEqual(told(members), ("table", None, (4, 0, 0, 4), ("-7", "10", "2", "3"), 4))

    def test_what_turns_a_row(self):
        for text in SOME:
            members = Members(Bounds(1, 1, 200, 0), ("1", text))
            self.assertEqual(members.shape, "row" if has_number(text) else "table", text)
            self.assertEqual(members.plain, tuple(sorted(("1", text))))
            self.assertEqual(Members(Bounds(1, 1, 0, 0), (text,)).shape, "table")
        self.assertEqual(Members(Bounds(1, 1, 0, 0)).shape, "row")
        self.assertEqual(Members(Bounds(1, 1, 0, 0)).row, ())

    def test_a_table_stays_one(self):
        members = Members(Bounds(1, 1, 2, 0), ("1", "x"))
        members.take("x")
        members.take("1")
        self.assertEqual(told(members), ("table", None, (4, 0, 0, 0), (), 0))
        members.put("1")
        self.assertEqual(members.shape, "table")
        self.assertEqual(told(members.anew()), ("row", (1,), None, ("1",), 1))

    def test_a_row_that_was_full_stays_one(self):
        members = Members(Bounds(1, 1, 2, 0), ("1", "2"))
        members.take("1")
        members.put("3")
        self.assertEqual(members.row, (2, 3))
        self.assertIs(members.take("x"), False)
        self.assertIs(members.has("x"), False)
        self.assertEqual(members.shape, "row")

    def test_the_order_in_which_a_row_goes_to_its_table(self):
        members = Members(Bounds(1, 1, 9, 0), tuple(str(number) for number in range(8, 14)))
        members.put("x")
        table = Table()
        for text in ("10", "11", "12", "13", "8", "9", "x"):
            table.put(text, None)
        # No property tells the buckets, only the table itself does.
        self.assertEqual(members._table.rows(), table.rows())
        self.assertEqual(members.figures, table.counts())
        self.assertEqual(dict(members._table.all_items()), {text: None for text in members.plain})

    def test_figures_step_by_step(self):
        members = Members(Bounds(1, 1, 0, 0), ("a", "b", "c", "d", "e"))
        self.assertEqual(members.figures, (4, 8, 0, 5))
        self.assertIs(members.has("a"), True)
        self.assertEqual(members.figures, (4, 8, 1, 5))
        self.assertIs(members.has("x"), False)
        self.assertEqual(members.figures, (4, 8, 2, 5))
        self.assertIs(members.put("a"), False)
        self.assertEqual(members.figures, (4, 8, 3, 5))
        self.assertIs(members.take("x"), False)
        self.assertEqual(members.figures, (8, 0, 0, 5))
        self.assertIs(members.take("a"), True)
        self.assertEqual(members.figures, (8, 0, 0, 4))

    def test_long_runs_beside_a_plain_set(self):
        for seed in range(30):
            pick = chance(seed)
            most = pick.choice((0, 1, 3, 16))
            members, plain = Members(Bounds(8, 64, most, 32)), PlainMembers(most)
            texts = [str(number) for number in range(-most, 40)] + list(SOME if seed % 3 else ())
            for turn in range(250):
                text = pick.choice(texts[:3 + turn // 2])
                word = pick.choices(("put", "take", "has"), weights=(5, 4 if turn % 100 > 50 else 1, 2))[0]
                result = getattr(members, word)(text)
                self.assertIs(result, getattr(plain, word)(text))
                self.assertEqual(told(members), plain.told())
                anew = members.anew()
                self.assertIs(anew == members, True)
                other = PlainMembers(most)
                for one in members.plain:
                    other.put(one)
                self.assertEqual(told(anew), other.told())
                self.assertEqual(told(members), plain.told())

    def test_as_many_as_there_can_be(self):
        numbers = tuple(str(number) for number in range(200))
        for most, shape in ((200, "row"), (199, "table")):
            members = Members(Bounds(1, 1, most, 0), numbers)
            before = told(members)
            self.assertEqual(members.shape, shape)
            self.refused(TooMany, 200, members.put, "200")
            self.refused(TooMany, 200, members.put, "x")
            self.assertEqual(told(members), before)
            self.assertIs(members.put("0"), False)
            members.take("0")
            self.assertIs(members.put("x"), True)
            self.assertEqual(members.shape, "table")
        self.assertEqual(len(Members(Bounds.usual(), numbers * 2)), 200)
        self.refused(TooMany, 200, Members, Bounds.usual(), (*numbers, *numbers, "200"))

    def test_equality(self):
        one, other = Members(Bounds(1, 1, 9, 0), ("1", "2")), Members(Bounds(1, 1, 0, 0), ("2", "1"))
        self.assertNotEqual(one.shape, other.shape)
        self.assertIs(one == other, True)
        self.assertIs(one != other, False)
        other.put("3")
        self.assertIs(one == other, False)
        self.unlike(one)
        self.unlike(other)
        self.assertIs(one.bounds == Bounds(1, 1, 9, 0), True)
        self.assertIs(one.anew().bounds == Bounds(1, 1, 9, 0), True)


class Refused(Case):
    def test_making(self):
        for value in not_of(Bounds):
            self.refused(InvalidOperation, None, Members, value)
            self.refused(InvalidOperation, None, Members, value, ("a\n",))
        for value in not_of(tuple):
            self.refused(InvalidOperation, None, Members, Bounds.usual(), value)
        for value in not_texts():
            self.refused(InvalidText, value, Members, Bounds.usual(), ("a", value, None))
            many = tuple(str(number) for number in range(201))
            self.refused(InvalidText, value, Members, Bounds.usual(), (*many, value))

    def test_calls(self):
        for texts in ((), ("1", "2"), ("a", "b", "c", "d", "e"), tuple("%d" % at for at in range(200))):
            members = Members(Bounds(1, 1, 2, 0), texts)
            before = told(members)
            for value in not_texts():
                self.refused(InvalidText, value, members.put, value)
                self.refused(InvalidText, value, members.take, value)
                self.refused(InvalidText, value, members.has, value)
            self.assertEqual(told(members), before)


class Together(Case):
    def test_beside_python_sets(self):
        pick = chance(31)
        for _ in range(150):
            bounds = Bounds(1, 1, pick.choice((0, 3, 20)), 0)
            rows = [pick.sample(SOME, pick.randrange(len(SOME))) for _ in range(pick.randrange(1, 5))]
            sets = [Members(Bounds(1, 1, pick.choice((0, 20)), 0), tuple(row)) for row in rows]
            before = [told(one) for one in sets]
            first, *rest = [set(row) for row in rows]
            for call, texts in ((united, first.union(*rest)), (shared, first.intersection(*rest)),
                                (parted, first.difference(*rest))):
                made = call(bounds, *sets)
                self.assertEqual(told(made), told(Members(bounds, tuple(sorted(texts)))))
                self.assertIs(made.bounds == bounds, True)
            self.assertEqual([told(one) for one in sets], before)

    def test_without_sets_and_with_one_twice(self):
        one = Members(Bounds.usual(), ("1", "a"))
        for call in (united, shared, parted):
            self.assertEqual(call(Bounds.usual()).plain, ())
            self.assertEqual(call(Bounds.usual(), one).plain, ("1", "a"))
        self.assertEqual(united(Bounds.usual(), one, one).plain, ("1", "a"))
        self.assertEqual(shared(Bounds.usual(), one, one).plain, ("1", "a"))
        self.assertEqual(parted(Bounds.usual(), one, one).plain, ())

    def test_the_result_is_another_set(self):
        one = Members(Bounds(1, 1, 0, 0), ("a", "b", "c", "d", "e"))
        for call in (united, shared, parted):
            made = call(Bounds(1, 1, 0, 0), one)
            made.put("x")
            self.assertEqual(told(one), ("table", None, (4, 8, 0, 5), ("a", "b", "c", "d", "e"), 5))

    def test_too_many(self):
        one = Members(Bounds.usual(), tuple(str(number) for number in range(150)))
        other = Members(Bounds.usual(), tuple(str(number) for number in range(50, 201)))
        self.refused(TooMany, 200, united, Bounds.usual(), one, other)
        other.take("200")
        self.assertEqual(len(united(Bounds.usual(), one, other)), 200)
        self.assertEqual(len(shared(Bounds.usual(), one, other)), 100)
        self.assertEqual(len(parted(Bounds.usual(), one, other)), 50)

    def test_refused(self):
        one = Members(Bounds.usual(), ("1",))
        for call in (united, shared, parted):
            for value in not_of(Bounds):
                self.refused(InvalidOperation, None, call, value)
                self.refused(InvalidOperation, None, call, value, one)
            for value in not_of(Members):
                self.refused(InvalidOperation, None, call, Bounds.usual(), value)
                self.refused(InvalidOperation, None, call, Bounds.usual(), one, value)
        many = [Members(Bounds.usual(), tuple("%d" % at for at in range(first, first + 200))) for first in (0, 200)]
        self.refused(InvalidOperation, None, united, Bounds.usual(), *many, None)


class NoAccess(Case):
    def test_what_is_told_stays(self):
        for texts in (("1", "2"), ("a", "b")):
            members = Members(Bounds(1, 1, 9, 0), texts)
            before = told(members)
            anew, twin = members.anew(), members.twin()
            self.assertEqual(told(twin), before)
            for one in (anew, twin):
                one.put("x")
                one.take(texts[0])
            self.assertEqual(told(members), before)
            members.put("y")
            self.assertEqual(twin.plain, anew.plain)
            self.assertEqual(twin.plain, tuple(sorted((texts[1], "x"))))
