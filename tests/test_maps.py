"""Stage 8: maps."""

from deedline.errors import InvalidOperation, InvalidText, TooMany
from deedline.shape.maps import Fields
from deedline.shape.packs import Bounds
from deedline.shape.tables import Table
from tests.helpers import Case, chance, not_of, not_texts

NO_PAIRS = [
    (("a",),), (("a", 1),), ((1, "a"),), (("a", "b", "c"),), (["a", "b"],), (("a", "b\n"),), (("a" * 201, "b"),),
    (("a", "b"), None), ("a", "b"), ("ab",), (("a", "b"), ("a", None)), (("a", True),),
]


def bounded(members, wide):
    return Bounds(8, 64, members, wide)


def told(fields):
    return (fields.shape, fields.row, fields.figures, fields.plain, len(fields))


class PlainFields:
    """A map by the words of [8.2]: a dict, and the table it would have."""

    def __init__(self, bounds):
        self.bounds, self.texts, self.table = bounds, {}, None

    def put(self, field, text):
        is_new = field not in self.texts
        too_many = is_new and len(self.texts) == self.bounds.members
        if self.table is None and (too_many or max(len(field), len(text)) > self.bounds.wide):
            self.table = Table()
            for one in self.texts:
                self.table.put(one, self.texts[one])
        if self.table is not None:
            self.table.put(field, text)
        self.texts[field] = text
        return is_new

    def take(self, field):
        if self.table is not None:
            self.table.take(field)
        return self.texts.pop(field, None)

    def text_of(self, field):
        if self.table is not None:
            self.table.get(field)
        return self.texts.get(field)

    def told(self):
        plain = tuple(sorted(self.texts.items()))
        if self.table is None:
            return ("row", tuple(self.texts.items()), None, plain, len(plain))
        return ("table", None, self.table.counts(), plain, len(plain))


class Shapes(Case):
    def test_rows(self):
        fields = Fields(bounded(3, 3), (("b", "1"), ("a", "2")))
        self.assertEqual(told(fields), ("row", (("b", "1"), ("a", "2")), None, (("a", "2"), ("b", "1")), 2))
        self.assertIs(fields.put("b", "3"), False)
        self.assertEqual(fields.row, (("b", "3"), ("a", "2")))
        self.assertEqual(fields.take("b"), "3")
        self.assertIs(fields.put("b", ""), True)
        self.assertEqual(fields.row, (("a", "2"), ("b", "")))
        self.assertEqual((fields.text_of("b"), fields.text_of("c"), fields.take("c")), ("", None, None))

    def test_an_empty_one(self):
        fields = Fields(bounded(0, 0))
        self.assertEqual(told(fields), ("row", (), None, (), 0))
        self.assertEqual((fields.take(""), fields.text_of("")), (None, None))

    def test_what_turns_a_row(self):
        for pairs, shape in (
            ((("abc", "abc"), ("b", "")), "row"), ((("abcd", ""),), "table"), ((("", "abcd"),), "table"),
            ((("a", ""), ("b", ""), ("c", "")), "table"), ((("a", ""), ("b", ""), ("a", "x")), "row"),
            ((("a", ""), ("a", "abcd")), "table"),
        ):
            self.assertEqual(Fields(bounded(2, 3), pairs).shape, shape)
        self.assertEqual(Fields(bounded(0, 200), (("", ""),)).shape, "table")
        self.assertEqual(Fields(bounded(1, 0), (("", ""),)).shape, "row")
        self.assertEqual(Fields(bounded(1, 200), (("a" * 200, "a" * 200),)).shape, "row")

    def test_a_field_of_the_row_that_becomes_too_wide(self):
        fields = Fields(bounded(2, 3), (("b", "1"), ("a", "2")))
        self.assertIs(fields.put("b", "wide"), False)
        self.assertEqual(told(fields), ("table", None, (4, 0, 0, 2), (("a", "2"), ("b", "wide")), 2))

    def test_a_table_stays_one(self):
        fields = Fields(bounded(2, 3), (("a", "wide"),))
        fields.take("a")
        fields.put("a", "b")
        self.assertEqual(told(fields), ("table", None, (4, 0, 0, 1), (("a", "b"),), 1))
        self.assertEqual(told(fields.anew()), ("row", (("a", "b"),), None, (("a", "b"),), 1))
        fields.take("a")
        self.assertEqual(told(fields), ("table", None, (4, 0, 0, 0), (), 0))

    def test_made_anew_a_row_ascends(self):
        fields = Fields(bounded(3, 3), (("b", "1"), ("a", "2")))
        self.assertEqual(fields.anew().row, (("a", "2"), ("b", "1")))
        self.assertEqual(fields.row, (("b", "1"), ("a", "2")))

    def test_figures_step_by_step(self):
        fields = Fields(bounded(0, 3), tuple((field, field) for field in "abcde"))
        self.assertEqual(fields.figures, (4, 8, 0, 5))
        self.assertEqual(fields.text_of("a"), "a")
        self.assertEqual(fields.figures, (4, 8, 1, 5))
        self.assertIs(fields.put("a", "b"), False)
        self.assertEqual(fields.figures, (4, 8, 2, 5))
        self.assertIsNone(fields.take("x"))
        self.assertEqual(fields.figures, (4, 8, 3, 5))
        self.assertIsNone(fields.text_of("x"))
        self.assertEqual(fields.figures, (8, 0, 0, 5))

    def test_the_order_in_which_a_row_goes_to_its_table(self):
        for order in ("aeimqu", "uqmiea", "maqeui"):
            fields = Fields(bounded(5, 3), tuple((field, "") for field in order))
            table = Table()
            for field in order:
                table.put(field, "")
            self.assertEqual(fields.figures, table.counts())
            # No property tells the buckets, only the table itself does.
            self.assertEqual(fields._table.rows(), table.rows())

    def test_long_runs_beside_a_plain_map(self):
        for seed in range(30):
            pick = chance(seed)
            bounds = bounded(pick.choice((0, 2, 5, 16, 40)), pick.choice((0, 2, 4, 32)))
            fields, plain = Fields(bounds), PlainFields(bounds)
            names = ["a", "", "bb", *("f%d" % at for at in range(40)), "dddd", "eeeee"][:10 + 2 * seed]
            for turn in range(250):
                field, text = pick.choice(names), pick.choice(("", "x", "yy", "zzz" if seed % 2 else "z", "x"))
                word = pick.choices(("put", "take", "text_of"), weights=(6, 5 if turn % 100 > 50 else 1, 2))[0]
                more = (text,) if word == "put" else ()
                result = getattr(fields, word)(field, *more)
                other = getattr(plain, word)(field, *more)
                self.assertEqual((result, type(result)), (other, type(other)))
                self.assertEqual(told(fields), plain.told())
                made, other = fields.anew(), PlainFields(bounds)
                for pair in fields.plain:
                    other.put(*pair)
                self.assertEqual(told(made), other.told())
                self.assertIs(made == fields, True)
                self.assertEqual(told(fields), plain.told())

    def test_as_many_as_there_can_be(self):
        pairs = tuple(("f%d" % at, "x") for at in range(200))
        for members, shape in ((200, "row"), (199, "table")):
            fields = Fields(bounded(members, 32), pairs)
            before = told(fields)
            self.assertEqual(fields.shape, shape)
            self.refused(TooMany, 200, fields.put, "x", "y")
            self.refused(TooMany, 200, fields.put, "x", "y" * 33)
            self.assertEqual(told(fields), before)
            self.assertIs(fields.put("f0", "y"), False)
            self.assertEqual(fields.text_of("f0"), "y")
        self.refused(TooMany, 200, Fields, bounded(200, 32), (*pairs, ("x", "")))
        self.assertEqual(len(Fields(bounded(200, 32), pairs * 2)), 200)

    def test_equality(self):
        pairs = (("b", "1"), ("a", "2"))
        one, other = Fields(bounded(9, 9), pairs), Fields(bounded(0, 0), pairs[::-1])
        self.assertNotEqual(one.shape, other.shape)
        self.assertIs(one == other, True)
        self.assertIs(one != other, False)
        self.assertIs(one == Fields(bounded(9, 9), pairs[::-1]), True)
        other.put("a", "3")
        self.assertIs(one == other, False)
        self.unlike(one)
        self.unlike(other)
        self.assertIs(one.bounds == bounded(9, 9), True)
        self.assertIs(one.anew().bounds == bounded(9, 9), True)

    def test_what_is_told_stays(self):
        for bounds in (bounded(9, 9), bounded(0, 0)):
            fields = Fields(bounds, (("b", "1"), ("a", "2")))
            before, row, anew, twin = told(fields), fields.row, fields.anew(), fields.twin()
            self.assertEqual(told(twin), before)
            for one in (anew, twin):
                one.put("c", "3")
                one.take("a")
                self.assertEqual(one.plain, (("b", "1"), ("c", "3")))
            self.assertEqual(told(fields), before)
            fields.put("d", "")
            self.assertEqual(row, before[1])


class Refused(Case):
    def test_making(self):
        for value in not_of(Bounds):
            self.refused(InvalidOperation, None, Fields, value)
            self.refused(InvalidOperation, None, Fields, value, None)
        many = tuple(("f%d" % at, "") for at in range(201))
        for value in NO_PAIRS:
            self.refused(InvalidOperation, None, Fields, Bounds.usual(), value)
            self.refused(InvalidOperation, None, Fields, Bounds.usual(), many + value)
        for value in not_of(tuple):
            self.refused(InvalidOperation, None, Fields, Bounds.usual(), value)
        for value in not_texts():
            self.refused(InvalidOperation, None, Fields, Bounds.usual(), (("a", value),))
            self.refused(InvalidOperation, None, Fields, Bounds.usual(), ((value, "a"),))

    def test_calls(self):
        for members, many in ((16, 0), (16, 5), (0, 5), (200, 200), (0, 200)):
            fields = Fields(bounded(members, 4), tuple(("f%d" % at, "") for at in range(many)))
            before = told(fields)
            for value in not_texts():
                self.refused(InvalidText, value, fields.put, value, "a")
                self.refused(InvalidText, value, fields.put, value, None)
                self.refused(InvalidText, value, fields.put, "a wide one", value)
                self.refused(InvalidText, value, fields.take, value)
                self.refused(InvalidText, value, fields.text_of, value)
            self.assertEqual(told(fields), before)
