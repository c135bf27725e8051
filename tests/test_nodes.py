"""Stage 26: branches, stands and nodes."""

import itertools

from deedline.copy import nodes as module
from deedline.copy.nodes import Node, cut, is_later, is_stand, judged, shared_place
from deedline.disk.texts import is_branch
from deedline.errors import InvalidCommand, InvalidNumber, InvalidOperation, InvalidStore, InvalidText, InvalidTime
from deedline.plain.grammar import WORDS, does_write, first_error
from deedline.plain.store import do, is_unit, replay
from deedline.shape.packs import Bounds
from deedline.store.core import Store
from tests.helpers import Case, not_commands, not_integers, not_keys, not_of, not_stores, not_times, values
from tests.model_store import Times
from tests.plain import DONE, NONE, error, number, text, words_of

PLACES = 10 ** 12
END = 10 ** 15
FIRST = (((0, 0),), 0)
A, B = (((0, 0), (1, 5)), 8), (((0, 0),), 9)
KEPT = {"b": ("text", "7", None), "a": ("list", ("x", "y"), 50)}


def not_stands():
    near = [(((0, 0),), -1), (((0, 0),), PLACES + 1), (((0, 0),), True), (((0, 0),), None), (((0, 0), (1, 9)), 8), ((), 0), (((1, 0),), 5), [((0, 0),), 0], ([(0, 0)], 0), (((0, 0),),), (((0, 0),), 0, 0),
            ((0, 0), 0), (((0, 0), (0, 1)), 5), (None, 0), (((0, 0),), "0"), (tuple((at, 0) for at in range(21)), 5)]
    return values() + near


def not_counts():
    return [value for value in values() if type(value) is not int or value < 0]


def told(node):
    """All that a node tells."""
    return (node.name, node.stand, node.place, node.kept_place, node.kept_stand, node.stretch, node.leads, node.line_time, node.now, node.entries(), list(node.entries()))


def numbers(stand):
    """The number under which each unit of a stand was made."""
    branch, place = stand
    return [max(number for number, begin in branch if begin <= at) for at in range(place)]


class Stands(Case):
    def test_example(self):
        self.assertEqual([is_stand((((0, 0), (1, 9)), 8)), shared_place(A, B), judged(A, B), judged((((0, 0),), 5), A), judged(A, (((0, 0),), 3)), cut(A, 4), is_later(A, B)],
                         [False, 5, ('parted', 5), ('behind', 5), ('ahead', 3), (((0, 0),), 4), True])
        self.assertEqual(module.MAX_STRETCH, 60)

    def test_is_stand(self):
        for stand in (FIRST, A, B, (((0, 0), (1, 9)), 9), (((0, 0),), PLACES), (((0, 0), (PLACES, PLACES)), PLACES), (tuple((at, at) for at in range(20)), 19)):
            self.assertIs(is_stand(stand), True)
        for value in not_stands():
            self.assertIs(is_stand(value), False, value)

    def test_cut(self):
        stand = (((0, 0), (2, 3), (4, 3), (5, 6)), 8)
        for place in range(9):
            branch = ((0, 0),) + ((2, 3), (4, 3)) * (place >= 3) + ((5, 6),) * (place >= 6)
            self.assertEqual(cut(stand, place), (branch, place))
            self.assertIs(is_stand(cut(stand, place)), True)
        for value in not_integers(0, 8) + [9, -1]:
            self.refused(InvalidNumber, value, cut, stand, value)
        for value in not_stands():
            self.refused(InvalidOperation, None, cut, value, None)

    def test_limits(self):
        for one, other, limit in (
            (((0, 0),), ((0, 0), (3, 7)), 7), (((0, 0), (1, 5)), ((0, 0), (2, 4)), 4), (((0, 0), (1, 5)), ((0, 0), (1, 6)), 5), (((0, 0), (1, 2), (2, 3)), ((0, 0), (1, 2), (3, 9)), 3),
            (((0, 0), (1, 2), (2, 3)), ((0, 0), (1, 2)), 3), (((0, 0), (1, 0)), ((0, 0), (2, 0)), 0),
        ):
            for place in (9, 12):
                self.assertEqual((shared_place((one, place), (other, 10)), shared_place((other, 10), (one, place))), (limit, limit))
        self.assertEqual((shared_place(A, A), shared_place(A, (A[0], 6)), shared_place((((0, 0),), 3), B)), (8, 6, 3))

    def test_judgements(self):
        for one, other, word, shared in (
            (A, A, "alike", 8), (A, (A[0], 9), "behind", 8), ((A[0], 9), A, "ahead", 8), (A, B, "parted", 5), ((((0, 0),), 5), (((0, 0), (1, 5)), 5), "alike", 5), (FIRST, A, "behind", 0),
            ((((0, 0),), 4), A, "behind", 4), ((((0, 0),), 6), A, "parted", 5), ((((0, 0),), 6), (((0, 0), (1, 5)), 5), "ahead", 5), (FIRST, FIRST, "alike", 0),
        ):
            turned = {"behind": "ahead", "ahead": "behind"}.get(word, word)
            self.assertEqual((judged(one, other), judged(other, one)), ((word, shared), (turned, shared)))

    def test_later(self):
        row = [FIRST, (((0, 0),), 1), B, (((0, 0), (1, 0)), 0), A, (A[0], 9), (((0, 0), (2, 0)), 0), (((0, 0), (1, 5), (2, 5)), 6)]
        for at, one in enumerate(row):
            for place, other in enumerate(row):
                self.assertIs(is_later(one, other), at > place)

    def test_pairs_of_branches_that_share_a_beginning(self):
        # Each number is given once: branches grow from one another, as heads are chosen.
        branches = [((0, 0),)]
        for number_of in range(1, 6):
            elder = branches[(number_of * 2) % len(branches)]
            branches.append((*elder, (number_of, elder[-1][1] + number_of % 3)))
        stands = [(branch, branch[-1][1] + more) for branch in branches for more in (0, 1, 3)]
        for one, other in itertools.product(stands, repeat=2):
            lines = numbers(one), numbers(other)
            shared = 0
            while shared < min(map(len, lines)) and lines[0][shared] == lines[1][shared]:
                shared += 1
            self.assertEqual(shared_place(one, other), shared, (one, other))
            word = ("alike" if len(lines[1]) == shared else "behind") if len(lines[0]) == shared else "ahead" if len(lines[1]) == shared else "parted"
            self.assertEqual(judged(one, other), (word, shared))
            for place in range(one[1] + 1):
                self.assertEqual(shared_place(cut(one, place), other), min(place, shared))
                self.assertEqual(shared_place(cut(one, place), one), place)

    def test_refused(self):
        for value in not_stands():
            for call in (shared_place, judged, is_later):
                self.refused(InvalidOperation, None, call, value, A)
                self.refused(InvalidOperation, None, call, A, value)


class Making(Case):
    def test_made(self):
        self.assertEqual(told(Node("a")), ("a", FIRST, 0, 0, FIRST, (), True, 0, 0, {}, []))
        node = Node("k" * 40, A, KEPT, leads=False, stretch=0, bounds=Bounds(1, 1, 0, 0), bound=5, policy="idle")
        self.assertEqual(told(node), ("k" * 40, A, 8, 8, A, (), False, 0, 0, KEPT, ["a", "b"]))
        self.assertEqual(Node("a", A).entries(), {})

    def test_refused(self):
        for value in not_keys():
            self.refused(InvalidText, value, Node, value, 5, 5, leads=5)
        for value in not_stands():
            if value is not None:
                self.refused(InvalidOperation, None, Node, "a", value, 5, leads=5)
        for value in not_stores():
            if value is not None:
                self.refused(InvalidStore, None, Node, "a", None, value, leads=5, stretch=-1)
        for value in values():
            if type(value) is not bool:
                self.refused(InvalidOperation, None, Node, "a", leads=value, stretch=-1)
        for value in not_integers(0, 60) + [61, -1]:
            self.refused(InvalidNumber, value, Node, "a", stretch=value, bounds=5)
        for leads in (True, False):
            for value in not_of(Bounds, type(None)):
                self.refused(InvalidOperation, None, Node, "a", leads=leads, bounds=value, bound=0)
            for value in not_integers(1, PLACES):
                if value is not None:
                    self.refused(InvalidNumber, value, Node, "a", leads=leads, bound=value, policy=5)
            for value in values() + ["Idle"]:
                self.refused(InvalidOperation, None, Node, "a", leads=leads, policy=value)
        size = Store(KEPT).size
        self.refused(InvalidOperation, None, Node, "a", None, KEPT, bound=size - 1)
        self.assertTrue(Node("a", None, KEPT, bound=size).leads)
        self.assertFalse(Node("a", None, KEPT, bound=size - 1, leads=False).leads)

    def test_what_it_is_made_of_stays_apart(self):
        kept = dict(KEPT)
        for leads in (True, False):
            node = Node("a", None, kept, leads=leads)
            kept["z"] = ("text", "", None)
            node.entries()["q"] = 5
            self.assertEqual(node.entries(), KEPT)
            del kept["z"]

    def test_equal(self):
        node = Node("a", A, KEPT, leads=False)
        self.assertTrue(node == Node("a", A, dict(reversed(KEPT.items())), leads=False, bounds=Bounds.usual()))
        for other in (Node("b", A, KEPT, leads=False), Node("a", B, KEPT, leads=False), Node("a", A, {}, leads=False), Node("a", A, KEPT), Node("a", A, KEPT, leads=False, stretch=9),
                      Node("a", A, KEPT, leads=False, bounds=Bounds(1, 1, 1, 1)), Node("a", A, KEPT, leads=False, bound=500), Node("a", A, KEPT, leads=False, policy="idle")):
            self.assertFalse(node == other)
            self.assertTrue(node != other)
        other = node.twin()
        other.call(("get", "a"), 5)
        self.assertFalse(node == other)
        self.unlike(node)
        one, other = Node("a", stretch=0), Node("a", stretch=0)
        one.call(("add", "n", "1"), 5)
        other.call(("add", "n", "2"), 5)
        self.assertFalse(one == other)
        self.assertTrue(one == one.twin())


class Leading(Case):
    def test_calls(self):
        node = Node("a", A, KEPT, stretch=2)
        self.assertEqual(node.call(("get", "b"), 5), (text("7"), ()))
        self.assertEqual(told(node)[1:9], (A, 8, 8, A, (), True, 0, 5))
        units = [(time, (words_of(line),)) for time, line in ((6, "add b 1"), (6, "del a"), (9, "set c x until 12"))]
        self.assertEqual([node.call(words_of(line), time) for time, line in ((6, "add b 1"), (6, "del a"), (9, "set c x for 3"), (9, "nope"), (10, "sadd b x"))],
                         [(number(8), (units[0],)), (number(1), (units[1],)), (DONE, (units[2],)), (error("unknown"), ()), (error("kind"), ())])
        self.assertEqual(told(node)[1:10], ((A[0], 11), 11, 8, A, tuple(units[1:]), True, 9, 10, {"b": ("text", "8", None), "c": ("text", "x", 12)}))
        self.assertEqual(Node("a", stretch=0).call(("add", "n", "1"), 1)[1], ((1, (("add", "n", "1"),)),))

    def test_as_a_store(self):
        for seed in range(8):
            times = Times(seed + 300, list(WORDS), keys=2)
            options = {"bound": 700, "policy": "idle"} if seed % 2 else {"bounds": Bounds(1, 1, 0, 0)}
            node, store = Node("a", A, KEPT, stretch=seed, **options), Store(KEPT, place=8, **options)
            for _ in range(120):
                command = times.command()
                reply, units = node.call(command, times.now)
                self.assertEqual(reply, store.call(command, times.now))
                self.assertEqual((node.entries(), list(node.entries()), node.place, node.now), (store.kept(), list(store), store.place, times.now))
                self.assertEqual((node.stretch, node.line_time), (store.units[-seed:] if seed else (), store.last if store.units else 0))
                self.assertEqual(units, store.units[len(store.units) - len(units):])

    def test_refused(self):
        for leads in (True, False):
            node = Node("a", A, KEPT, leads=leads)
            node.call(("get", "a"), 5)
            before = told(node)
            for value in not_commands():
                self.refused(InvalidCommand, None, node.call, value, None)
                self.refused(InvalidCommand, None, node.call, value, 9)
            for value in [*not_times(), 4, 0]:
                self.refused(InvalidTime, value, node.call, ("clear",), value)
                self.refused(InvalidTime, value, node.call, ("nope",), value)
            self.assertEqual(told(node), before)


class Following(Case):
    def test_calls(self):
        node = Node("a", A, KEPT, leads=False)
        for line, reply in (("get b", text("7")), ("nope", error("unknown")), ("get", error("words")), ("add b x", error("number")), ("add b 1", error("copy")), ("clear", error("copy")), ("sadd b x", error("copy")),
                            ("expire b %d" % END, error("copy")), ("set b x for %d" % END, error("copy")), ("len b", error("kind")), ("size", number(2)), ("del zz", error("copy"))):
            self.assertEqual((line, node.call(words_of(line), 5)), (line, (reply, ())))
        self.assertEqual((node.call(("kind", "a"), 49), node.call(("kind", "a"), 50), node.call(("size",), 50)), ((text("list"), ()), (NONE, ()), (number(1), ())))
        self.assertEqual(told(node)[1:10], (A, 8, 8, A, (), False, 0, 50, KEPT))

    def test_reading_beside_do(self):
        times = Times(3, list(WORDS), keys=2)
        store = Store()
        for _ in range(100):
            store.call(times.command(), times.now)
        node = Node("a", None, store.kept(), leads=False)
        for _ in range(200):
            command = times.command()
            reply = do(command, store.kept(), times.now)[0]
            wrong = first_error(command)
            told_reply = error(wrong) if wrong else error("copy") if does_write(command) else reply
            self.assertEqual(node.call(command, times.now), (told_reply, ()))

    def test_apply(self):
        node = Node("a", (((0, 0),), 4), KEPT, leads=False, stretch=2)
        branch = ((0, 0), (3, 5), (4, 6), (6, 7))
        units = ((10, (("add", "b", "1"),)), (10, (("gone", "a"), ("out", "zz"))), (12, (("sadd", "b", "x"),)))
        self.assertIsNone(node.apply(units[0], branch))
        self.assertEqual(told(node)[1:10], ((((0, 0), (3, 5)), 5), 5, 4, (((0, 0),), 4), units[:1], False, 10, 10, {**KEPT, "b": ("text", "8", None)}))
        node.apply(units[1], branch)
        self.assertEqual((node.stand, node.kept_stand, node.entries()), ((((0, 0), (3, 5), (4, 6)), 6), (((0, 0),), 4), {"b": ("text", "8", None)}))
        node.apply(units[2], ((0, 0), (3, 5), (4, 6)))
        self.assertEqual((node.stand, node.stretch, node.line_time, node.now), ((((0, 0), (3, 5), (4, 6)), 7), units[1:], 12, 12))
        self.assertEqual((node.call(("get", "b"), 12), node.call(("exists", "a"), 12)), ((text("8"), ()), (number(0), ())))
        # Its time can be ahead of a unit's.
        node.call(("get", "b"), 40)
        node.apply((30, (("del", "b"),)), ((0, 0), (3, 5), (4, 6)))
        self.assertEqual((node.line_time, node.now, node.entries()), (30, 40, {}))
        self.refused(InvalidTime, 39, node.call, ("size",), 39)

    def test_apply_refused(self):
        unit = (10, (("clear",),))
        node = Node("a", A, KEPT, leads=False)
        node.apply((8, (("add", "b", "1"),)), A[0])
        before = told(node)
        for value in values() + [(1, ()), (1, (("get", "a"),)), (True, (("clear",),))]:
            if not is_unit(value):
                self.refused(InvalidOperation, None, node.apply, value, 5)
                self.refused(InvalidOperation, None, node.apply, value, A[0])
        for value in values():
            if not is_branch(value):
                self.refused(InvalidOperation, None, node.apply, unit, value)
        for branch in (((0, 0),), ((0, 0), (2, 5)), ((0, 0), (1, 6)), ((0, 0), (1, 5), (2, 8)), ((0, 0), (1, 5), (2, 5))):
            self.refused(InvalidOperation, None, node.apply, unit, branch)
        self.refused(InvalidOperation, None, node.apply, (7, (("clear",),)), A[0])
        self.assertEqual(told(node), before)
        for branch in (((0, 0), (1, 5), (2, 9)), ((0, 0), (1, 5), (2, 10)), ((0, 0), (1, 5), (2, 11))):
            other = node.twin()
            other.apply(unit, branch)
            self.assertEqual(other.stand, (branch if branch[-1][1] <= 10 else A[0], 10))
        leader = Node("a", A, KEPT)
        self.refused(InvalidOperation, None, leader.apply, unit, A[0])

    def test_load(self):
        for leads in (True, False):
            node = Node("a", A, KEPT, leads=leads, bound=60)
            if leads:
                node.call(("add", "b", "1"), 9)
            big = {"z": ("text", "x" * 100, 3)}
            self.assertIsNone(node.load(B, big, 7))
            self.assertEqual(told(node)[1:10], (B, 9, 9, B, (), False, 7, 9 if leads else 7, big))
            node.load(FIRST, {}, 20)
            self.assertEqual(told(node)[1:10], (FIRST, 0, 0, FIRST, (), False, 20, 20, {}))
            before = told(node)
            for value in not_stands():
                self.refused(InvalidOperation, None, node.load, value, 5, 5)
            for value in not_stores():
                self.refused(InvalidStore, None, node.load, A, value, -1)
            for value in not_times():
                self.refused(InvalidTime, value, node.load, A, KEPT, value)
            self.assertEqual(told(node), before)
            self.refused(InvalidOperation, None, node.apply, (19, (("clear",),)), ((0, 0),))
            node.apply((20, (("add", "n", "1"),)), ((0, 0),))
            self.assertEqual(node.entries(), {"n": ("text", "1", None)})


class Keeping(Case):
    def test_keep_and_lose_power(self):
        node = Node("a", A, KEPT, stretch=9)
        for at in range(5):
            node.call(("add", "n", "1"), 10 + at)
        self.assertEqual([node.keep(0), node.keep(2), node.kept_place, node.kept_stand, node.place], [8, 10, 10, (A[0], 10), 13])
        twin = node.twin()
        self.assertEqual((node.lose_power(), twin.keep(1), twin.keep(99), twin.lose_power()), (3, 11, 13, 0))
        self.assertEqual(told(node)[1:10], ((A[0], 10), 10, 10, (A[0], 10), (), False, 11, 14, {**KEPT, "n": ("text", "2", None)}))
        self.assertEqual((twin.line_time, twin.entries()["n"], twin.stretch, twin.leads), (14, ("text", "5", None), (), False))
        self.assertEqual((node.lose_power(), node.keep(), node.call(("add", "n", "1"), 14)), (0, 10, (error("copy"), ())))
        self.refused(InvalidTime, 13, node.call, ("size",), 13)
        node = Node("a", A, KEPT)
        node.call(("add", "n", "1"), 10)
        self.assertEqual((node.keep(), node.keep(None), node.keep(10 ** 39)), (9, 9, 9))
        for value in not_counts():
            if value is not None:
                self.refused(InvalidNumber, value, node.keep, value)

    def test_a_lost_lead(self):
        node = Node("a", (((0, 0),), 4), KEPT, leads=False)
        node.apply((5, (("add", "n", "1"),)), ((0, 0), (2, 5)))
        self.assertEqual((node.stand, node.kept_stand), ((((0, 0), (2, 5)), 5), (((0, 0),), 4)))
        self.assertEqual((node.lose_power(), node.stand, node.line_time, node.now), (1, (((0, 0),), 4), 0, 5))
        node = Node("a")
        node.lead(3)
        node.call(("add", "n", "1"), 5)
        self.assertEqual((node.stand, node.kept_stand, node.lose_power(), node.stand), ((((0, 0), (3, 0)), 1), (((0, 0), (3, 0)), 0), 1, (((0, 0), (3, 0)), 0)))

    def test_lead_and_follow(self):
        node = Node("a", A, KEPT, leads=False, bound=64, policy="idle")
        node.apply((5, (("add", "b", "1"),)), A[0])
        for value in not_integers(2, PLACES) + [0, 1, PLACES + 1]:
            self.refused(InvalidNumber, value, node.lead, value)
        self.assertIsNone(node.lead(4))
        self.assertEqual(told(node)[1:9], (((*A[0], (4, 9)), 9), 9, 9, ((*A[0], (4, 9)), 9), ((5, (("add", "b", "1"),)),), True, 5, 5))
        self.refused(InvalidTime, 4, node.call, ("size",), 4)
        self.assertEqual(node.call(("set", "c", "x" * 20), 5)[1], ((5, (("set", "c", "x" * 20), ("out", "a"))),))
        self.assertIsNone(node.follow())
        self.assertEqual((node.leads, node.place, node.kept_place, node.call(("add", "b", "1"), 6), len(node.stretch)), (False, 10, 9, (error("copy"), ()), 2))
        self.refused(InvalidNumber, 4, node.lead, 4)
        node.lead(5)
        node.lead(6)
        self.assertEqual((node.stand, node.kept_place, node.leads), (((*A[0], (4, 9), (5, 10), (6, 10)), 10), 10, True))
        self.assertIsNone(node.follow())
        self.assertIsNone(node.follow())

    def test_marks_begin_anew_with_a_lead(self):
        node = Node("a", None, {"a": ("text", "", None), "b": ("text", "", None)}, bound=40, policy="idle")
        node.call(("get", "a"), 1)
        twin = node.twin()
        node.lead(1)
        self.assertEqual([one.call(("set", "c", "xx"), 2)[1][0][1][-1] for one in (node, twin)], [("out", "a"), ("out", "b")])

    def test_lead_refused(self):
        full = (tuple((at, 0) for at in range(20)), 5)
        node = Node("a", full, KEPT, leads=False, bound=30)
        before = told(node)
        self.refused(InvalidOperation, None, node.lead, 20)
        self.refused(InvalidNumber, 19, node.lead, 19)
        node.load(A, KEPT, 0)
        self.refused(InvalidOperation, None, node.lead, 20)
        self.refused(InvalidNumber, 1, node.lead, 1)
        self.assertEqual((told(node)[2:], node.stand), ((8, 8, A, *before[5:]), A))
        node.load((full[0][:19], 5), {}, 0)
        node.lead(19)
        self.refused(InvalidOperation, None, node.lead, 20)
        self.assertEqual(len(node.stand[0]), 20)
        node.follow()
        node.load((full[0][:19], 5), KEPT, 0)
        self.refused(InvalidOperation, None, node.lead, 19)
        self.assertFalse(node.leads)

    def test_twin(self):
        node = Node("a", A, KEPT, bound=300, policy="idle", stretch=3)
        for at in range(4):
            node.call(("add", "n", "1"), at)
        node.keep(1)
        twin, before = node.twin(), told(node)
        self.assertTrue(twin == node)
        twin.call(("add", "n", "1"), 9)
        twin.keep()
        self.assertEqual(told(node), before)
        self.assertFalse(twin == node)
        self.assertEqual((node.twin().lose_power(), node.lose_power(), node.entries()["n"]), (3, 3, ("text", "1", None)))


class Runs(Case):
    def test_copies(self):
        """A node that applies what another one did has the same entries at each place, and again behind lost power."""
        for seed in range(8):
            times = Times(seed + 350, list(WORDS), keys=2)
            head, copy, units = Node("a", bound=700, policy="idle", stretch=5), Node("b", leads=False, stretch=7), []
            for _ in range(120):
                units += head.call(times.command(), times.now)[1]
                what = times.pick.random()
                if what < 0.6 and copy.place < len(units):
                    copy.apply(units[copy.place], head.stand[0])
                elif what < 0.7:
                    copy.keep(times.pick.randrange(3))
                elif what < 0.75:
                    lost = copy.place - copy.kept_place
                    self.assertEqual((copy.lose_power(), copy.stretch), (lost, ()))
                elif what < 0.8:
                    copy.load(head.stand, head.entries(), head.line_time)
                elif what < 0.82:
                    self.assertEqual(copy.place, shared_place(copy.stand, head.stand))
                    copy.call(("size",), max(times.now, copy.now))
                self.assertEqual(copy.entries(), replay(tuple(units[:copy.place])))
                self.assertEqual(copy.line_time, units[copy.place - 1][0] if copy.place else 0)
                self.assertEqual(copy.stretch, tuple(units[copy.place - len(copy.stretch):copy.place]))
                self.assertEqual(judged(copy.stand, head.stand), ("alike" if copy.place == len(units) else "behind", copy.place))
