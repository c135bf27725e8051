"""Stage 5: packed lists."""

import itertools

from deedline.errors import InvalidNumber, InvalidOperation, InvalidText, TooMany
from deedline.shape import packs
from deedline.shape.packs import Bounds, Pack, is_nodes
from tests.helpers import Case, chance, not_integers, not_of, not_texts, values

NARROW = [Bounds(texts, signs, 0, 0) for texts in (1, 2, 3, 5) for signs in (1, 3, 6, 100)]


class PlainPack:
    """A packed list by the words of [5.1] and [5.2]; its nodes are lists."""

    def __init__(self, bounds):
        self.most_texts, self.most_signs = bounds.texts, bounds.signs
        self.nodes = []

    def fits(self, node):
        return len(node) == 1 or (len(node) <= self.most_texts and len("".join(node)) <= self.most_signs)

    def node_at(self, place):
        return [at for at, node in enumerate(self.nodes) for _ in node][place]

    def edit(self, index, node):
        """A node has these texts now: it is parted, and then nodes are joined."""
        parted = [[]]
        for text in node:
            if parted[-1] and not self.fits(parted[-1] + [text]):
                parted.append([])
            parted[-1].append(text)
        parted = [one for one in parted if one]
        self.nodes[index:index + 1] = parted
        first, last = max(index - 1, 0), min(index + len(parted), len(self.nodes) - 1)
        at = first + 1
        while at <= last:
            if self.fits(self.nodes[at - 1] + self.nodes[at]):
                self.nodes[at - 1] += self.nodes.pop(at)
                last -= 1
            else:
                at += 1

    def put(self, place, text):
        many = sum(len(node) for node in self.nodes)
        if many == 0:
            self.nodes = [[text]]
            return
        index = self.node_at(place if place < many else many - 1)
        node = list(self.nodes[index])
        node.insert(place - sum(len(one) for one in self.nodes[:index]), text)
        self.edit(index, node)

    def take(self, place):
        index = self.node_at(place)
        node = list(self.nodes[index])
        text = node.pop(place - sum(len(one) for one in self.nodes[:index]))
        self.edit(index, node)
        return text

    def change(self, place, text):
        index = self.node_at(place)
        node = list(self.nodes[index])
        node[place - sum(len(one) for one in self.nodes[:index])] = text
        self.edit(index, node)

    def keep(self, start, end):
        for place in range(sum(len(node) for node in self.nodes) - 1, -1, -1):
            if not start <= place < end:
                self.take(place)

    def told(self):
        return tuple(tuple(node) for node in self.nodes)


class BoundsOfShapes(Case):
    def test_properties(self):
        bounds = Bounds(1, 1000, 0, 200)
        self.assertEqual((bounds.texts, bounds.signs, bounds.members, bounds.wide), (1, 1000, 0, 200))
        bounds = Bounds(64, 1, 200, 0)
        self.assertEqual((bounds.texts, bounds.signs, bounds.members, bounds.wide), (64, 1, 200, 0))
        self.assertIs(Bounds.usual() == Bounds(8, 64, 16, 32), True)
        self.assertIs(type(Bounds.usual()), Bounds)

    def test_equality(self):
        self.assertIs(Bounds(1, 2, 3, 4) == Bounds(1, 2, 3, 4), True)
        self.assertIs(Bounds(1, 2, 3, 4) != Bounds(1, 2, 3, 4), False)
        for other in ((2, 2, 3, 4), (1, 3, 3, 4), (1, 2, 4, 4), (1, 2, 3, 5)):
            self.assertIs(Bounds(1, 2, 3, 4) == Bounds(*other), False)
        self.unlike(Bounds.usual())

    def test_they_never_change(self):
        for name in ("texts", "signs", "members", "wide"):
            with self.assertRaises(AttributeError):
                setattr(Bounds.usual(), name, 1)

    def test_refused(self):
        for value in not_integers(1, 64):
            self.refused(InvalidNumber, value, Bounds, value, 1, 0, 0)
            self.refused(InvalidNumber, value, Bounds, value, None, None, None)
        for value in not_integers(1, 1000):
            self.refused(InvalidNumber, value, Bounds, 1, value, 0, 0)
            self.refused(InvalidNumber, value, Bounds, 1, value, None, None)
        for value in not_integers(0, 200):
            self.refused(InvalidNumber, value, Bounds, 1, 1, value, 0)
            self.refused(InvalidNumber, value, Bounds, 1, 1, value, None)
            self.refused(InvalidNumber, value, Bounds, 1, 1, 0, value)
        for numbers, kept in (((65, 1, 0, 0), 65), ((1, 1001, 0, 0), 1001), ((0, 0, 0, 0), 0), ((1, 1, 201, 0), 201),
                              ((1, 1, 0, 201), 201), ((1, 1, -1, 201), -1)):
            self.refused(InvalidNumber, kept, Bounds, *numbers)


class Nodes(Case):
    def sound(self, pack, plain):
        """The nodes are those of the plain list, and all of [5.1] and [5.3] holds."""
        self.assertEqual(pack.nodes, plain.told())
        self.assertEqual(pack.plain, tuple(text for node in pack.nodes for text in node))
        self.assertEqual(len(pack), len(pack.plain))
        for node in pack.nodes:
            self.assertTrue(node and plain.fits(list(node)))
        for one, other in zip(pack.nodes, pack.nodes[1:]):
            self.assertFalse(plain.fits([*one, *other]))
        many, signs = len(pack.plain), len("".join(pack.plain))
        most = 2 * (many // (pack.bounds.texts + 1) + signs // (pack.bounds.signs + 1)) + 1
        self.assertLessEqual(len(pack.nodes), most)
        self.assertIs(is_nodes(pack.bounds, pack.nodes), True)

    def both(self, bounds, texts):
        pack, plain = Pack(bounds, texts), PlainPack(bounds)
        for text in texts:
            plain.put(sum(len(node) for node in plain.nodes), text)
        return pack, plain

    def test_told_cases(self):
        bounds = Bounds(3, 6, 0, 0)
        pack = Pack(bounds, ("a", "b", "c", "d"))
        self.assertEqual(pack.nodes, (("a", "b", "c"), ("d",)))
        pack.put(0, "x")
        self.assertEqual(pack.nodes, (("x", "a", "b"), ("c", "d")))
        pack.put(3, "long text")
        self.assertEqual(pack.nodes, (("x", "a", "b"), ("long text",), ("c", "d")))
        self.assertEqual(pack.take(0), "x")
        self.assertEqual(pack.nodes, (("a", "b"), ("long text",), ("c", "d")))
        self.assertEqual(pack.take(2), "long text")
        self.assertEqual(pack.nodes, (("a", "b"), ("c", "d")))
        pack.change(1, "bbbbb")
        self.assertEqual(pack.nodes, (("a", "bbbbb"), ("c", "d")))
        pack.change(1, "bbbbbb")
        self.assertEqual(pack.nodes, (("a",), ("bbbbbb",), ("c", "d")))
        pack.change(1, "")
        self.assertEqual(pack.nodes, (("a", ""), ("c", "d")))
        pack.take(0)
        self.assertEqual(pack.nodes, (("", "c", "d"),))

    def test_a_text_that_is_too_long_stands_alone(self):
        pack = Pack(Bounds(3, 2, 0, 0), ("aaaa", "", "b"))
        self.assertEqual(pack.nodes, (("aaaa",), ("", "b")))
        self.assertEqual(Pack(Bounds(64, 1000, 0, 0), ("a" * 200,) * 6).nodes, (("a" * 200,) * 5, ("a" * 200,)))

    def test_each_call_at_each_place_of_each_short_list(self):
        some = ("", "a", "bb", "cccc")
        for bounds in NARROW:
            for size in range(4):
                for texts in itertools.product(some, repeat=size):
                    self.each_call(bounds, texts, some)

    def each_call(self, bounds, texts, some):
        pack, plain = self.both(bounds, texts)
        self.sound(pack, plain)
        for place in range(len(texts) + 1):
            for text in some:
                pack, plain = self.both(bounds, texts)
                self.assertIsNone(pack.put(place, text))
                plain.put(place, text)
                self.sound(pack, plain)
                self.assertEqual(pack.plain, (*texts[:place], text, *texts[place:]))
        for place in range(len(texts)):
            for text in some:
                pack, plain = self.both(bounds, texts)
                self.assertIsNone(pack.change(place, text))
                plain.change(place, text)
                self.sound(pack, plain)
                self.assertEqual(pack.plain, (*texts[:place], text, *texts[place + 1:]))
            pack, plain = self.both(bounds, texts)
            self.assertEqual(pack.take(place), texts[place])
            plain.take(place)
            self.sound(pack, plain)

    def test_keep_at_all_places(self):
        pick = chance(21)
        for bounds in NARROW:
            for _ in range(3):
                texts = tuple(pick.choice(("", "a", "bb", "cccc")) for _ in range(7))
                for start in range(8):
                    for end in range(8):
                        pack, plain = self.both(bounds, texts)
                        self.assertIsNone(pack.keep(start, end))
                        plain.keep(start, end)
                        self.sound(pack, plain)
                        self.assertEqual(pack.plain, texts[start:end])

    def test_long_runs_beside_a_plain_list(self):
        for seed, bounds in enumerate([*NARROW, Bounds.usual()]):
            pick = chance(seed)
            pack, plain, row = Pack(bounds), PlainPack(bounds), []
            for turn in range(600):
                text = pick.choice(("", "a", "bb", "cccc", "d" * pick.randrange(9), "e" * 30))
                word = pick.choices(("put", "take", "change", "keep"), weights=(60, 20 + turn % 50, 30, 1))[0]
                if word == "put" and len(row) < 200:
                    place = pick.choice((0, len(row), pick.randrange(len(row) + 1)))
                    row.insert(place, text)
                    pack.put(place, text)
                    plain.put(place, text)
                elif word == "keep":
                    start, end = pick.randrange(len(row) + 1), pick.randrange(len(row) + 1)
                    row = row[start:end]
                    pack.keep(start, end)
                    plain.keep(start, end)
                elif row:
                    place = pick.randrange(len(row))
                    if word == "take":
                        self.assertEqual(pack.take(place), row.pop(place))
                        plain.take(place)
                    else:
                        row[place] = text
                        pack.change(place, text)
                        plain.change(place, text)
                self.assertEqual(pack.plain, tuple(row))
                self.sound(pack, plain)


class Reading(Case):
    def test_reading(self):
        pack = Pack(Bounds(2, 4, 0, 0), ("a", "bb", "a", "", "a"))
        self.assertEqual([pack.at(place) for place in range(5)], ["a", "bb", "a", "", "a"])
        self.assertEqual(pack.places_of("a"), (0, 2, 4))
        self.assertEqual((pack.places_of("x"), pack.places_of("")), ((), (3,)))
        self.assertEqual((pack.part(0, 5), pack.part(1, 3)), (pack.plain, ("bb", "a")))
        self.assertEqual((pack.part(3, 3), pack.part(4, 1), pack.part(5, 5)), ((), (), ()))
        self.assertEqual(len(pack), 5)
        self.assertIs(pack.bounds == Bounds(2, 4, 0, 0), True)

    def test_an_empty_one(self):
        pack = Pack(Bounds.usual())
        self.assertEqual((pack.nodes, pack.plain, len(pack), pack.part(0, 0)), ((), (), 0, ()))
        pack.keep(0, 0)
        pack.put(0, "")
        pack.take(0)
        self.assertEqual((pack.nodes, pack.plain), ((), ()))

    def test_equality(self):
        texts = ("a", "bb", "a")
        one, other = Pack(Bounds(1, 1, 0, 0), texts), Pack(Bounds.usual(), texts)
        self.assertIs(one == other, True)
        self.assertIs(one != other, False)
        self.assertNotEqual(one.nodes, other.nodes)
        other.put(3, "")
        self.assertIs(one == other, False)
        self.assertIs(one == Pack(Bounds(1, 1, 0, 0), ("a", "a", "bb")), False)
        self.unlike(one)

    def test_as_many_as_there_can_be(self):
        pack = Pack(Bounds.usual(), ("a",) * 200)
        before = pack.nodes
        self.refused(TooMany, 200, pack.put, 0, "b")
        self.refused(TooMany, 200, pack.put, 200, "b")
        self.assertEqual((len(pack), pack.nodes), (200, before))
        pack.change(199, "b")
        pack.take(0)
        pack.put(0, "c")
        self.assertEqual(pack.plain, ("c", *("a",) * 198, "b"))
        self.refused(TooMany, 200, Pack, Bounds.usual(), ("a",) * 201)

    def test_constant(self):
        self.assertEqual(packs.MAX_MEMBERS, 200)


class Refused(Case):
    def test_making(self):
        for value in not_of(Bounds):
            self.refused(InvalidOperation, None, Pack, value)
            self.refused(InvalidOperation, None, Pack, value, ("a\n",))
        for value in not_of(tuple):
            self.refused(InvalidOperation, None, Pack, Bounds.usual(), value)
        for value in not_texts():
            self.refused(InvalidText, value, Pack, Bounds.usual(), ("a", value, None))
            self.refused(InvalidText, value, Pack, Bounds.usual(), ("a",) * 201 + (value,))

    def test_calls(self):
        for many in (0, 5, 200):
            pack = Pack(Bounds(2, 3, 0, 0), ("a", "bb", "c", "", "d") * (many // 5))
            before = pack.nodes
            for value in not_integers(0, many):
                self.refused(InvalidNumber, value, pack.put, value, "a")
                self.refused(InvalidNumber, value, pack.put, value, None)
                for call in (pack.keep, pack.part):
                    self.refused(InvalidNumber, value, call, value, 0)
                    self.refused(InvalidNumber, value, call, value, None)
                    self.refused(InvalidNumber, value, call, 0, value)
            for value in not_integers(0, many - 1):
                self.refused(InvalidNumber, value, pack.take, value)
                self.refused(InvalidNumber, value, pack.at, value)
                self.refused(InvalidNumber, value, pack.change, value, "a")
                self.refused(InvalidNumber, value, pack.change, value, None)
            self.refused(InvalidNumber, many, pack.take, many)
            self.refused(InvalidNumber, many, pack.change, many, "a")
            self.refused(InvalidNumber, many + 1, pack.put, many + 1, "a")
            for value in not_texts():
                self.refused(InvalidText, value, pack.put, many, value)
                self.refused(InvalidText, value, pack.places_of, value)
                if many:
                    self.refused(InvalidText, value, pack.change, 0, value)
            self.assertEqual(pack.nodes, before)


class IsNodes(Case):
    def test_told_cases(self):
        bounds = Bounds(3, 6, 0, 0)
        good = [(), (("",),), (("a" * 200,),), (("a", "b", "c"),), (("a", "b", "c"), ("d",)), (("aaaaaa", ""),),
                (("aaaaaa",), ("b",)), (("a", "b", "c"), ("d", "e", "f")), (("aaaa",), ("bbb",), ("cccc",))]
        bad = [((),), (("a",), ()), (("a", "b", "c", "d"),), (("aaaa", "bbb"),), (("a",), ("b",)),
               (("a", "b", "c"), ("d",), ("e",)), (("aaaaaa",), ("",)), (("a\n",),), (("a", 1),), ("a",), (["a"],),
               [("a",)], [["a"]], (("a" * 201,),), (None,), (("a", True),)]
        for value in good:
            self.assertIs(is_nodes(bounds, value), True, value)
        for value in bad:
            self.assertIs(is_nodes(bounds, value), False, value)

    def test_at_most_200_texts(self):
        bounds = Bounds(1, 1, 0, 0)
        self.assertIs(is_nodes(bounds, (("a",),) * 200), True)
        self.assertIs(is_nodes(bounds, (("a",),) * 201), False)
        bounds = Bounds(64, 1000, 0, 0)
        self.assertIs(is_nodes(bounds, (("a",) * 64,) * 3 + (("a",) * 8,)), True)
        self.assertIs(is_nodes(bounds, (("a",) * 64,) * 3 + (("a",) * 9,)), False)

    def test_every_value_is_taken(self):
        for value in values():
            good = type(value) is tuple and value in ((), (("a", "b"),))
            self.assertIs(is_nodes(Bounds(2, 2, 0, 0), value), good)

    def test_refused(self):
        for value in not_of(Bounds):
            self.refused(InvalidOperation, None, is_nodes, value, ())
            self.refused(InvalidOperation, None, is_nodes, value, None)


class NoAccess(Case):
    def test_what_is_told_stays(self):
        texts = ("a", "b", "c")
        pack = Pack(Bounds(2, 9, 0, 0), texts)
        nodes, plain, part = pack.nodes, pack.plain, pack.part(0, 2)
        pack.change(0, "x")
        self.assertEqual((nodes, plain, part), ((("a", "b"), ("c",)), texts, ("a", "b")))
        twin = pack.twin()
        twin.take(0)
        self.assertEqual((pack.plain, twin.plain), (("x", "b", "c"), ("b", "c")))
