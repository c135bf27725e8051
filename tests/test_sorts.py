"""Stage 8: sorted sets."""

from deedline.errors import InvalidNumber, InvalidOperation, InvalidText, TooMany
from deedline.shape.packs import Bounds
from deedline.shape.skips import Skips
from deedline.shape.sorts import Scores
from tests.helpers import LEAST, MOST, Case, chance, not_integers, not_of, not_texts, not_wholes
from tests.test_skips import NO_PAIRS, plain_levels


def bounded(members, wide):
    return Bounds(8, 64, members, wide)


def told(scores):
    return (scores.shape, scores.levels, scores.plain, len(scores))


class Shapes(Case):
    def test_an_empty_one(self):
        for members in (0, 16):
            scores = Scores(bounded(members, 0))
            self.assertEqual(told(scores), ("row", None, (), 0))
            self.assertEqual((scores.part(0, 0), scores.below(MOST, also=True)), ((), 0))
            for call in (scores.take, scores.score_of, scores.place_of):
                self.assertIsNone(call("a"))

    def test_what_turns_a_row(self):
        scores = Scores(bounded(2, 3), ((2, "abc"), (1, "")))
        self.assertEqual(told(scores), ("row", None, ((1, ""), (2, "abc")), 2))
        scores.put("abc", 0)
        scores.put("abc", 0)
        self.assertEqual(told(scores), ("row", None, ((0, "abc"), (1, "")), 2))
        scores.put("m", 1)
        pairs = ((0, "abc"), (1, ""), (1, "m"))
        self.assertEqual(told(scores), ("skips", plain_levels(pairs), pairs, 3))
        self.assertEqual(Scores(bounded(2, 3), ((1, "abcd"),)).shape, "skips")
        self.assertEqual(Scores(bounded(0, 200), ((1, "a"),)).shape, "skips")
        self.assertEqual(Scores(bounded(1, 0), ((1, ""),)).shape, "row")
        self.assertEqual(Scores(bounded(1, 200), ((1, "a" * 200),)).shape, "row")

    def test_skips_stay_so(self):
        for pairs in (((1, "abcd"),), ((1, "a"), (1, "b"), (1, "c"))):
            scores = Scores(bounded(2, 3), pairs)
            for _, member in pairs:
                scores.take(member)
            self.assertEqual(told(scores), ("skips", (((None, 1),),), (), 0))
            scores.put("a", 1)
            self.assertEqual(scores.shape, "skips")
            self.assertEqual(told(scores.anew()), ("row", None, ((1, "a"),), 1))

    def test_a_row_that_was_full_stays_one(self):
        scores = Scores(bounded(2, 3), ((1, "a"), (2, "b")))
        scores.take("a")
        scores.put("c", 1)
        self.assertEqual((scores.shape, scores.take("wide one"), scores.score_of("wide one")), ("row", None, None))

    def test_as_many_as_there_can_be(self):
        pairs = tuple((at, "m%d" % at) for at in range(200))
        for members, shape in ((200, "row"), (199, "skips")):
            scores = Scores(bounded(members, 32), pairs)
            before = told(scores)
            self.assertEqual(scores.shape, shape)
            self.refused(TooMany, 200, scores.put, "x", 1)
            self.refused(TooMany, 200, scores.put, "x" * 33, 1)
            self.assertEqual(told(scores), before)
            self.assertIs(scores.put("m0", -1), True)
        self.refused(TooMany, 200, Scores, bounded(200, 32), (*pairs, (1, "x")))
        self.assertEqual(len(Scores(bounded(200, 32), pairs * 2)), 200)

    def test_equality(self):
        pairs = ((1, "a"), (2, "b"))
        one, other = Scores(bounded(9, 9), pairs), Scores(bounded(0, 0), pairs[::-1])
        self.assertNotEqual(one.shape, other.shape)
        self.assertIs(one == other, True)
        self.assertIs(one != other, False)
        other.put("a", 2)
        self.assertIs(one == other, False)
        self.assertIs(one == Skips(pairs), False)
        self.unlike(one)
        self.unlike(other)
        self.assertIs(one.bounds == bounded(9, 9), True)
        self.assertIs(one.anew().bounds == bounded(9, 9), True)

    def test_what_is_told_stays(self):
        pairs = ((1, "a"), (2, "b"))
        for bounds in (bounded(9, 9), bounded(0, 0)):
            scores = Scores(bounds, pairs)
            before, twin, anew = told(scores), scores.twin(), scores.anew()
            self.assertEqual(told(twin), before)
            for one in (twin, anew):
                one.put("c", 0)
                one.take("a")
                self.assertEqual((one.score_of("c"), one.score_of("a"), one.score_of("b")), (0, None, 2))
            self.assertEqual(told(scores), before)
            self.assertEqual([scores.score_of(member) for member in "abc"], [1, 2, None])


class Runs(Case):
    def test_long_runs_beside_plain_pairs(self):
        for seed in range(24):
            pick = chance(seed)
            bounds = bounded(pick.choice((0, 2, 5, 16)), pick.choice((0, 2, 4, 32)))
            members = ["", "a", "bb", "ccc", "dddd", "eeeee", *("m%d" % at for at in range(20))]
            members = members[:4 + seed]
            scores, skips, plain, has_turned = Scores(bounds), Skips(), {}, False
            for turn in range(150):
                member, score = pick.choice(members), pick.choice((0, 1, -1, pick.randrange(-9, 9), LEAST, MOST))
                if pick.random() < (0.7 if turn % 50 < 30 else 0.3):
                    if member not in plain and (len(plain) == bounds.members or len(member) > bounds.wide):
                        has_turned = True
                    self.assertIs(scores.put(member, score), skips.put(member, score))
                    plain[member] = score
                else:
                    self.assertEqual(scores.take(member), skips.take(member))
                    plain.pop(member, None)
                pairs = tuple(sorted((plain[one], one) for one in plain))
                levels = plain_levels(pairs) if has_turned else None
                self.assertEqual(told(scores), ("skips" if has_turned else "row", levels, pairs, len(pairs)))
                self.reading(scores, pairs, members)

    def reading(self, scores, pairs, members):
        places = {member: at for at, (_, member) in enumerate(pairs)}
        for member in members:
            self.assertEqual(scores.place_of(member), places.get(member))
            self.assertEqual(scores.score_of(member), pairs[places[member]][0] if member in places else None)
        for start in range(len(pairs) + 1):
            self.assertEqual(scores.part(start, len(pairs)), pairs[start:])
            self.assertEqual(scores.part(start, len(pairs) // 2), pairs[start:len(pairs) // 2])
        for place, pair in enumerate(pairs):
            self.assertEqual(scores.at(place), pair)
        for score in (LEAST, -1, 0, 3, MOST):
            self.assertEqual(scores.below(score), len([pair for pair in pairs if pair[0] < score]))
            self.assertEqual(scores.below(score, also=False), scores.below(score))
            self.assertEqual(scores.below(score, also=True), len([pair for pair in pairs if pair[0] <= score]))
        made = scores.anew()
        self.assertEqual(told(made), told(Scores(scores.bounds, pairs)))
        self.assertIs(made == scores, True)


class Refused(Case):
    def test_making(self):
        for value in not_of(Bounds):
            self.refused(InvalidOperation, None, Scores, value)
            self.refused(InvalidOperation, None, Scores, value, None)
        for value in [*not_of(tuple), *NO_PAIRS]:
            self.refused(InvalidOperation, None, Scores, Bounds.usual(), value)
        many = tuple((1, "m%d" % at) for at in range(201))
        self.refused(InvalidOperation, None, Scores, Bounds.usual(), (*many, None))

    def test_calls_in_both_shapes(self):
        for members, many in ((16, 0), (0, 0), (16, 3), (0, 3), (3, 3), (200, 200), (0, 200)):
            scores = Scores(bounded(members, 4), tuple((at, "m%d" % at) for at in range(many)))
            if members == many == 0:
                scores.put("a", 1)
                scores.take("a")
            before = told(scores)
            self.assertEqual(scores.shape, "row" if members >= max(many, 1) else "skips")
            for value in not_texts():
                self.refused(InvalidText, value, scores.put, value, 1)
                self.refused(InvalidText, value, scores.put, value, None)
                for call in (scores.take, scores.score_of, scores.place_of):
                    self.refused(InvalidText, value, call, value)
            for value in not_wholes():
                self.refused(InvalidNumber, value, scores.put, "a wide one", value)
                self.refused(InvalidNumber, value, scores.below, value)
                self.refused(InvalidNumber, value, scores.below, value, also=1)
            for value in [many, *not_integers(0, many - 1)]:
                self.refused(InvalidNumber, value, scores.at, value)
            for value in [many + 1, *not_integers(0, many)]:
                self.refused(InvalidNumber, value, scores.part, value, 0)
                self.refused(InvalidNumber, value, scores.part, value, None)
                self.refused(InvalidNumber, value, scores.part, 0, value)
            for value in not_of(bool):
                self.refused(InvalidOperation, None, scores.below, 0, also=value)
            self.assertEqual(told(scores), before)
