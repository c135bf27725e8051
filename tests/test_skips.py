"""Stage 7: skip lists."""

import itertools

from deedline.base.hashes import hash_of
from deedline.errors import InvalidNumber, InvalidOperation, InvalidText, TooMany
from deedline.shape import skips as module
from deedline.shape.skips import Skips, height_of, is_levels
from tests.helpers import LEAST, MOST, SIGNS, Case, chance, not_integers, not_of, not_texts, not_wholes, values

NO_PAIRS = [
    ((1,),), (("a", 1),), ((1, "a", 2),), ([1, "a"],), ((True, "a"),), ((LEAST - 1, "a"),), ((MOST + 1, "a"),),
    ((1, "a\n"),), ((1, "a" * 201),), ((1, "a"), None), ((1, 1),), (1, "a"), ((1, "a"), (1, None)), ("1a",),
]


def plain_height(text):
    digits = format(hash_of(text), "016b")
    return min(8, 1 + len(digits) - len(digits.rstrip("1")))


def plain_levels(pairs):
    """The levels of a skip list with these ascending pairs, by [7.1]."""
    ranks = {member: at + 1 for at, (_, member) in enumerate(pairs)}
    levels = []
    for at in range(max([1] + [plain_height(member) for member in ranks])):
        row = [None] + [member for _, member in pairs if plain_height(member) > at]
        places = [0] + [ranks[member] for member in row[1:]] + [len(pairs) + 1]
        levels.append(tuple((member, places[at + 1] - places[at]) for at, member in enumerate(row)))
    return tuple(levels)


def plain_steps(pairs, member):
    """How many links the search of [7.3] takes, told by its words."""
    scores = {one: score for score, one in pairs}
    at, steps = None, 0
    for level in reversed(plain_levels(pairs)):
        row = [one for one, _ in level]
        while True:
            following = row[row.index(at) + 1:]
            if not following or (scores[following[0]], following[0]) >= (scores[member], member):
                break
            at = following[0]
            steps += 1
    return steps


def some_texts(many):
    """Texts with heights of all kinds."""
    tall = {}
    for at in range(4000):
        tall.setdefault(plain_height("m%d" % at), []).append("m%d" % at)
    row = [tall[height][at] for at in range(len(tall[6])) for height in sorted(tall) if at < len(tall[height])]
    return ["", " ", *row][:many]


class Heights(Case):
    def test_heights(self):
        for text in ["", "a", "ab", *SIGNS, *("m%d" % at for at in range(3000))]:
            self.assertEqual(height_of(text), plain_height(text))
        self.assertEqual(height_of(""), 1)
        self.assertEqual(module.MAX_HEIGHT, 8)

    def test_the_greatest_height(self):
        told = {}
        for at in range(200000):
            text = "%d" % at
            code = hash_of(text)
            ones = len(format(code, "b")) - len(format(code, "b").rstrip("1"))
            told.setdefault(ones, text)
            if ones >= 9 and 7 in told and 8 in told:
                break
        for ones in told:
            self.assertEqual(height_of(told[ones]), min(ones + 1, 8))
        self.assertGreater(max(told), 8)

    def test_refused(self):
        for value in not_texts():
            self.refused(InvalidText, value, height_of, value)


class Lists(Case):
    def sound(self, skips, scores):
        """All that a skip list tells is what these scores of members tell."""
        pairs = tuple(sorted((scores[member], member) for member in scores))
        self.assertEqual((skips.plain, len(skips)), (pairs, len(pairs)))
        self.assertEqual(skips.levels, plain_levels(pairs))
        for level in skips.levels:
            self.assertEqual(sum(span for _, span in level), len(pairs) + 1)

    def test_an_empty_one(self):
        skips = Skips()
        self.assertEqual((skips.plain, skips.levels, len(skips)), ((), (((None, 1),),), 0))
        self.assertEqual((skips.part(0, 0), skips.below(0), skips.below(MOST, also=True)), ((), 0, 0))
        for call in (skips.take, skips.score_of, skips.place_of, skips.steps_of):
            self.assertIsNone(call("a"))

    def test_one_pair(self):
        skips = Skips()
        self.assertIs(skips.put("m", 0), True)
        self.assertIs(skips.put("m", 0), False)
        self.assertEqual(skips.score_of("m"), 0)
        self.assertIs(skips.put("m", -1), True)
        self.assertEqual((skips.score_of("m"), skips.place_of("m"), skips.steps_of("m")), (-1, 0, 0))
        self.assertEqual(skips.take("m"), -1)
        self.assertEqual((skips.take("m"), skips.levels), (None, (((None, 1),),)))

    def test_equal_scores_stand_by_member(self):
        skips = Skips(((1, "b"), (1, ""), (1, "a"), (0, "z"), (1, "B")))
        self.assertEqual(skips.plain, ((0, "z"), (1, ""), (1, "B"), (1, "a"), (1, "b")))
        self.assertEqual((skips.below(1), skips.below(1, also=True), skips.below(1, also=False)), (1, 5, 1))

    def test_scores_at_both_ends(self):
        skips = Skips(((LEAST, "a"), (MOST, "b"), (MOST, "")))
        self.assertEqual((skips.below(LEAST), skips.below(LEAST, also=True)), (0, 1))
        self.assertEqual((skips.below(MOST), skips.below(MOST, also=True)), (1, 3))

    def test_the_same_for_every_order_of_putting(self):
        texts = some_texts(6)
        self.assertGreater(max(plain_height(text) for text in texts), 3)
        pairs = tuple((at // 2, text) for at, text in enumerate(texts))
        told = plain_levels(tuple(sorted(pairs)))
        for order in itertools.permutations(pairs):
            self.assertEqual(Skips(order).levels, told)
            skips = Skips(((9, pairs[0][1]), (5, "x"), *order[:3]))
            for score, member in order[3:]:
                skips.put(member, score)
            skips.put(pairs[0][1], pairs[0][0])
            skips.take("x")
            self.assertEqual(skips.levels, told)
            self.assertEqual([skips.steps_of(member) for _, member in pairs],
                             [plain_steps(sorted(pairs), member) for _, member in pairs])

    def test_the_last_score_of_a_member_holds(self):
        self.assertEqual(Skips(((1, "a"), (2, "b"), (3, "a"))).plain, ((2, "b"), (3, "a")))

    def test_long_runs_beside_plain_pairs(self):
        for seed in range(12):
            pick = chance(seed)
            texts, scores, skips = some_texts(12 + 15 * seed), {}, Skips()
            for turn in range(200):
                member = pick.choice(texts)
                score = pick.choice((0, 1, -1, 2, pick.randrange(-50, 50), LEAST, MOST))
                if pick.random() < (0.7 if turn % 100 < 60 else 0.2):
                    self.assertIs(skips.put(member, score), scores.get(member) != score)
                    scores[member] = score
                else:
                    self.assertEqual(skips.take(member), scores.pop(member, None))
                self.sound(skips, scores)
                if turn % 10 == 0:
                    self.reading(skips, skips.plain, texts, pick)

    def reading(self, skips, pairs, texts, pick):
        places = {member: at for at, (_, member) in enumerate(pairs)}
        for member in pick.sample(texts, 10):
            self.assertEqual(skips.place_of(member), places.get(member))
            score = pairs[places[member]][0] if member in places else None
            self.assertEqual(skips.score_of(member), score)
            steps = plain_steps(pairs, member) if member in places else None
            self.assertEqual(skips.steps_of(member), steps)
        for place in range(len(pairs)):
            self.assertEqual(skips.at(place), pairs[place])
        for start in range(len(pairs) + 1):
            end = pick.randrange(len(pairs) + 1)
            self.assertEqual(skips.part(start, end), pairs[start:end])
        for score in (LEAST, -51, -1, 0, 1, 2, 7, MOST):
            self.assertEqual(skips.below(score), len([pair for pair in pairs if pair[0] < score]))
            self.assertEqual(skips.below(score, also=True), len([pair for pair in pairs if pair[0] <= score]))

    def test_as_many_as_there_can_be(self):
        pairs = tuple((at % 7, "m%d" % at) for at in range(200))
        skips = Skips(pairs * 2)
        before = skips.levels
        self.refused(TooMany, 200, skips.put, "x", 1)
        self.assertEqual((skips.levels, len(skips)), (before, 200))
        self.assertIs(skips.put("m0", 9), True)
        skips.take("m1")
        self.assertIs(skips.put("x", 1), True)
        self.refused(TooMany, 200, Skips, (*pairs, (1, "x")))
        self.refused(TooMany, 200, is_levels, (*pairs, (1, "x")), ())

    def test_equality(self):
        one, other = Skips(((1, "a"), (2, "b"))), Skips(((2, "b"), (5, "a"), (1, "a")))
        self.assertIs(one == other, True)
        self.assertIs(one != other, False)
        other.put("a", 2)
        self.assertIs(one == other, False)
        self.assertIs(one == Skips(((1, "a"),)), False)
        self.unlike(one)

    def test_what_is_told_stays(self):
        skips = Skips(((1, "a"), (2, "b")))
        plain, levels, twin = skips.plain, skips.levels, skips.twin()
        skips.put("c", 0)
        twin.take("a")
        self.assertEqual(plain, ((1, "a"), (2, "b")))
        self.assertEqual(levels, plain_levels(plain))
        self.assertEqual((skips.plain, twin.plain), (((0, "c"), (1, "a"), (2, "b")), ((2, "b"),)))


class IsLevels(Case):
    def test_told_cases(self):
        pairs = tuple((at, text) for at, text in enumerate(some_texts(12)))
        levels = plain_levels(pairs)
        self.assertIs(is_levels(pairs, levels), True)
        self.assertIs(is_levels(pairs[::-1], levels), True)
        self.assertIs(is_levels((), (((None, 1),),)), True)
        bad = [levels[:-1], levels[1:], levels[::-1], (*levels, ((None, 13),)), list(levels), (list(levels[0]),),
               tuple(list(level) for level in levels), tuple(tuple(list(link) for link in level) for level in levels),
               ((levels[0][:-1]), *levels[1:]), (levels[0][::-1], *levels[1:])]
        for value in bad:
            self.assertIs(is_levels(pairs, value), False)
        self.assertIs(is_levels(pairs[1:], levels), False)
        self.assertIs(is_levels(((5, ""), *pairs[1:]), levels), False)

    def test_true_is_no_span(self):
        self.assertIs(is_levels((), (((None, True),),)), False)
        pairs = ((1, "m"), (2, "n"))
        levels = plain_levels(pairs)
        turned = tuple(tuple((one, True if span == 1 else span) for one, span in level) for level in levels)
        self.assertEqual(levels, turned)
        self.assertIs(is_levels(pairs, turned), False)

    def test_every_value_is_taken(self):
        for value in [*values(), (), ((),), (((None, 1),),), (((None, 1), 1),), (((None,),),)]:
            good = type(value) is tuple and value == (((None, 1),),)
            self.assertIs(is_levels((), value), good)
            self.assertIs(is_levels(((1, "a"),), value), False)

    def test_refused(self):
        for value in not_of(tuple):
            self.refused(InvalidOperation, None, is_levels, value, ())
        for value in NO_PAIRS:
            self.refused(InvalidOperation, None, is_levels, value, ())


class Refused(Case):
    def test_making(self):
        for value in not_of(tuple):
            self.refused(InvalidOperation, None, Skips, value)
        many = tuple((1, "m%d" % at) for at in range(201))
        for value in NO_PAIRS:
            self.refused(InvalidOperation, None, Skips, value)
            self.refused(InvalidOperation, None, Skips, many + value)
        for value in not_texts():
            self.refused(InvalidOperation, None, Skips, ((1, value),))
        for value in not_wholes():
            self.refused(InvalidOperation, None, Skips, ((value, "a"),))

    def test_calls(self):
        for many in (0, 3, 200):
            skips = Skips(tuple((at, "m%d" % at) for at in range(many)))
            before = skips.levels
            for value in not_texts():
                self.refused(InvalidText, value, skips.put, value, 1)
                self.refused(InvalidText, value, skips.put, value, None)
                for call in (skips.take, skips.score_of, skips.place_of, skips.steps_of):
                    self.refused(InvalidText, value, call, value)
            for value in not_wholes():
                self.refused(InvalidNumber, value, skips.put, "x", value)
                self.refused(InvalidNumber, value, skips.below, value)
                self.refused(InvalidNumber, value, skips.below, value, also=1)
            for value in not_integers(0, many - 1):
                self.refused(InvalidNumber, value, skips.at, value)
            for value in [many + 1, *not_integers(0, many)]:
                self.refused(InvalidNumber, value, skips.part, value, 0)
                self.refused(InvalidNumber, value, skips.part, value, None)
                self.refused(InvalidNumber, value, skips.part, 0, value)
            self.refused(InvalidNumber, many, skips.at, many)
            for value in not_of(bool):
                self.refused(InvalidOperation, None, skips.below, 0, also=value)
            self.assertEqual(skips.levels, before)
