"""Stage 27: a group of nodes."""

import collections

from deedline.copy import group as module
from deedline.copy.group import Group
from deedline.copy.nodes import Node
from deedline.errors import InvalidCommand, InvalidNumber, InvalidOperation, InvalidTime, Refused, UnknownName
from deedline.plain.store import replay
from deedline.shape.packs import Bounds
from tests.helpers import Case, chance, not_commands, not_integers, not_of, not_times, values
from tests.model_group import PlainGroup, shared
from tests.model_store import Times
from tests.plain import DONE, error, number, text, words_of

PLACES = 10 ** 12
FIRST = (((0, 0),), 0)
UNIT = (5, (("add", "n", "1"),))


def told(group):
    """All that a group tells."""
    known = tuple(group.known().items()) if group.head is not None else None
    return (group.names, group.head, group.linked, [group.queue(name) for name in group.names], known, [told_node(group.node(name)) for name in group.names])


def told_node(node):
    return (node.name, node.stand, node.kept_place, node.stretch, node.leads, node.line_time, node.now, node.entries())


def not_names(*names):
    return [value for value in values() if type(value) is not str or value not in names] + ["zz"]


def not_counts():
    return [value for value in values() if type(value) is not int or value < 0]


class Making(Case):
    def test_example(self):
        group = Group(("a", "b", "c"), stretch=2)
        self.assertEqual([group.join("b"), group.call("a", ("set", "k", "1"), 10), group.deliver("b", 9), group.keep("b"), group.acknowledge("b"), group.sure(1), group.sure(2), group.judge("b", "a"), group.judge("c", "a")],
                         [('part', 0, 0), ('done',), 1, 1, 1, 1, 0, ('alike', 1), ('behind', 0)])
        self.assertEqual((module.MAX_NODES, module.MAX_QUEUE), (5, 60))

    def test_made(self):
        group = Group(("b", "c", "a"))
        self.assertEqual((group.names, group.head, group.linked, group.known()), (("a", "b", "c"), "b", (), {"a": 0, "b": 0, "c": 0}))
        self.assertEqual([told_node(group.node(name)) for name in "abc"], [(name, FIRST, 0, (), name == "b", 0, 0, {}) for name in "abc"])
        self.assertTrue(group.node("b") == Node("b"))
        self.assertTrue(group.node("a") == Node("a", leads=False))
        group = Group(("x",), stretch=0, queue=1, bounds=Bounds(1, 1, 1, 1), bound=9, policy="idle")
        self.assertTrue(group.node("x") == Node("x", stretch=0, bounds=Bounds(1, 1, 1, 1), bound=9, policy="idle"))
        self.assertEqual((Group(("a", "b", "c", "d", "e"), stretch=60, queue=60).sure(5), list(Group(("b", "a")).known())), (0, ["a", "b"]))

    def test_refused(self):
        for value in [value for value in values() if type(value) is not tuple or not value] + [("a", "a"), ("a", ""), ("a", 1), ("a", True), ("a", "k" * 41), tuple("abcdef"), ["a"], ("a", "b", "a"), ("a", ("b",)), ("a", ["b"]), ("a", None)]:
            self.refused(InvalidOperation, None, Group, value, stretch=-1)
        for value in not_integers(0, 60) + [61]:
            self.refused(InvalidNumber, value, Group, ("a",), stretch=value, queue=0)
        for value in not_integers(1, 60) + [0, 61]:
            self.refused(InvalidNumber, value, Group, ("a",), queue=value, bounds=5)
        for stretch, queue in ((8, 7), (60, 59), (2, 1), (0, 0)):
            self.refused(InvalidNumber, queue, Group, ("a",), stretch=stretch, queue=queue, bounds=5)
        for value in not_of(Bounds, type(None)):
            self.refused(InvalidOperation, None, Group, ("a",), bounds=value, bound=0)
        for value in not_integers(1, PLACES):
            if value is not None:
                self.refused(InvalidNumber, value, Group, ("a",), bound=value, policy=5)
        for value in values():
            self.refused(InvalidOperation, None, Group, ("a",), policy=value)


class Refusing(Case):
    def group(self):
        group = Group(("a", "b", "c"))
        group.join("b")
        group.call("a", ("add", "n", "1"), 5)
        return group

    def test_names(self):
        group = self.group()
        before = told(group)
        for value in not_names("a", "b", "c"):
            for call in (group.node, group.queue, group.join, group.cut_link, group.acknowledge, group.power):
                self.refused(UnknownName, value, call, value)
            self.refused(UnknownName, value, group.call, value, 5, -1)
            self.refused(UnknownName, value, group.keep, value, -1)
            self.refused(UnknownName, value, group.deliver, value, -1)
            self.refused(UnknownName, value, group.judge, value, 5)
            self.refused(UnknownName, value, group.judge, "a", value)
            for asked in ((value,), ("a", value), (value, "b"), [value], (value, value)):
                self.refused(InvalidOperation, None, group.fail_over, asked)
        for asked in [(), ("a", "a"), ("a", "b", "a"), ["a"], "a", {"a": 1}, *[value for value in values() if value not in (("a",), ("a", "b"))]]:
            self.refused(InvalidOperation, None, group.fail_over, asked)
        self.assertEqual(told(group), before)

    def test_arguments(self):
        group = self.group()
        before = told(group)
        for name in "abc":
            for value in not_commands():
                self.refused(InvalidCommand, None, group.call, name, value, -1)
            for value in not_times():
                self.refused(InvalidTime, value, group.call, name, ("clear",), value)
            for value in not_counts():
                if value is not None:
                    self.refused(InvalidNumber, value, group.keep, name, value)
                self.refused(InvalidNumber, value, group.deliver, name, value)
        for value in not_integers(1, 3) + [0, 4]:
            self.refused(InvalidNumber, value, group.sure, value)
        self.refused(InvalidTime, 4, group.call, "a", ("clear",), 4)
        for name in ("a", "c"):
            self.refused(Refused, "link", group.deliver, name)
            self.refused(Refused, "link", group.cut_link, name)
            self.refused(Refused, "link", group.acknowledge, name)
        self.refused(Refused, "itself", group.join, "a")
        self.assertEqual(told(group), before)

    def test_without_a_head(self):
        group = self.group()
        group.power("a")
        before = told(group)
        for name in "abc":
            self.refused(Refused, "head", group.join, name)
            for call in (group.deliver, group.cut_link, group.acknowledge):
                self.refused(Refused, "link", call, name)
        self.refused(Refused, "head", group.known)
        self.refused(Refused, "head", group.sure, 1)
        self.refused(InvalidNumber, 4, group.sure, 4)
        self.refused(InvalidNumber, -1, group.deliver, "b", -1)
        self.refused(UnknownName, "z", group.join, "z")
        self.assertEqual((told(group), group.judge("a", "b"), group.queue("b")), (before, ("alike", 0), ()))

    def test_a_full_branch(self):
        group = Group(("a", "b"))
        for at in range(1, 20):
            self.assertEqual(group.fail_over(("a", "b")), ("a", 0))
        before = told(group)
        self.refused(Refused, "branch", group.fail_over, ("a",))
        self.refused(Refused, "branch", group.fail_over, ("b", "a"))
        self.refused(InvalidOperation, None, group.fail_over, ("a", "a"))
        self.assertEqual((told(group), len(group.node("a").stand[0])), (before, 20))
        self.assertEqual((group.fail_over(("b",)), group.node("b").stand), (("b", 0), (((0, 0), (20, 0)), 0)))


class Links(Case):
    def test_queues(self):
        group = Group(("a", "b", "c"), stretch=2, queue=3)
        self.assertEqual((group.join("c"), group.linked), (("part", 0, 0), ("c",)))
        units = []
        for at in range(3):
            self.assertEqual(group.call("a", ("add", "n", "1"), at), number(at + 1))
            units.append(("unit", (at, (("add", "n", "1"),))))
            self.assertEqual(group.queue("c"), tuple(units))
        self.assertEqual((group.call("a", ("get", "n"), 5), group.call("a", ("nope",), 5), group.queue("c"), group.queue("a"), group.queue("b")), (text("3"), error("unknown"), tuple(units), (), ()))
        self.assertEqual((group.deliver("c"), group.queue("c"), group.node("c").place, group.deliver("c", 0), group.deliver("c", 5), group.deliver("c", 5), group.node("c").place), (1, tuple(units[1:]), 1, 0, 2, 0, 3))
        self.assertEqual((group.node("c").entries(), group.node("c").line_time, group.judge("c", "a")), ({"n": ("text", "3", None)}, 2, ("alike", 3)))
        for at in range(3):
            group.call("a", ("add", "n", "1"), 7)
        self.assertEqual((len(group.queue("c")), group.linked), (3, ("c",)))
        group.call("a", ("add", "n", "1"), 7)
        self.assertEqual((group.queue("c"), group.linked, group.judge("c", "a")), ((), (), ("behind", 3)))
        self.refused(Refused, "link", group.deliver, "c")

    def test_joining(self):
        group = Group(("a", "b"), stretch=2)
        for at in range(2):
            group.call("a", ("add", "n", "1"), at)
        self.assertEqual((group.join("b"), group.queue("b")), (("part", 0, 0), (("unit", (0, (("add", "n", "1"),))), ("unit", (1, (("add", "n", "1"),))))))
        group.call("a", ("add", "n", "1"), 4)
        entries = {"n": ("text", "3", None)}
        self.assertEqual((len(group.queue("b")), group.join("b"), group.queue("b")), (3, ("whole", 0, 0), (("whole", (((0, 0),), 3), entries, 4),)))
        group.call("a", ("add", "n", "1"), 4)
        self.assertEqual((group.deliver("b"), group.node("b").stand, group.node("b").kept_place, group.node("b").stretch, group.node("b").entries()), (1, (((0, 0),), 3), 3, (), entries))
        group.deliver("b")
        self.assertEqual((group.judge("a", "b"), group.node("b").kept_place, len(group.node("b").stretch)), (("alike", 4), 3, 1))
        # A link that is there is replaced, and all that was queued.
        group.call("a", ("add", "n", "1"), 9)
        self.assertEqual((group.join("b"), len(group.queue("b")), group.deliver("b", 10 ** 20), group.join("b"), group.queue("b")), (("part", 4, 0), 1, 1, ("part", 5, 0), ()))
        group.queue("b")
        group.join("b")
        for _ in range(3):
            group.call("a", ("add", "n", "1"), 9)
        group.join("b")
        told_queue = group.queue("b")
        told_queue[0][2]["x"] = 5
        self.assertEqual(group.queue("b")[0][2], {"n": ("text", "8", None)})
        self.assertEqual(Group(("a", "b"), stretch=0).join("b"), ("part", 0, 0))

    def test_cut_links(self):
        group = Group(("a", "b", "c"))
        group.join("b")
        group.join("c")
        group.call("a", ("add", "n", "1"), 5)
        self.assertEqual((group.cut_link("b"), group.linked, group.queue("b"), len(group.queue("c"))), (None, ("c",), (), 1))
        group.call("a", ("add", "n", "1"), 5)
        self.assertEqual((group.join("b"), group.queue("b")), (("part", 0, 0), group.queue("c")))

    def test_knowing(self):
        group = Group(("a", "b", "c"))
        group.join("b")
        group.join("c")
        for at in range(4):
            group.call("a", ("add", "n", "1"), at)
        group.deliver("b", 3)
        group.deliver("c", 2)
        self.assertEqual((group.keep("b", 2), group.keep("c"), group.known(), group.acknowledge("b"), group.acknowledge("c"), group.known()), (2, 2, {"a": 0, "b": 0, "c": 0}, 2, 2, {"a": 0, "b": 2, "c": 2}))
        self.assertEqual(([group.sure(many) for many in (1, 2, 3)], group.keep("a", 3), [group.sure(many) for many in (1, 2, 3)]), ([2, 2, 0], 3, [3, 2, 2]))
        group.keep("b")
        group.cut_link("b")
        self.assertEqual((group.known(), group.power("c"), group.known(), list(group.known())), ({"a": 3, "b": 2, "c": 2}, 0, {"a": 3, "b": 2, "c": 2}, ["a", "b", "c"]))
        group.fail_over(("a", "b", "c"))
        self.assertEqual((group.head, group.known()), ("a", {"a": 4, "b": 0, "c": 0}))
        group.join("b")
        self.assertEqual((group.acknowledge("b"), group.known()["b"]), (3, 3))

    def test_power(self):
        group = Group(("a", "b", "c"))
        group.join("b")
        group.join("c")
        for at in range(3):
            group.call("a", ("add", "n", "1"), at)
        group.deliver("b", 3)
        group.deliver("c", 3)
        group.keep("b", 1)
        self.assertEqual((group.power("b"), group.linked, group.node("b").place, group.head, group.power("b")), (2, ("c",), 1, "a", 0))
        group.keep("a", 1)
        self.assertEqual((group.power("a"), group.linked, group.head, group.node("a").leads, group.judge("a", "c")), (2, (), None, False, ("behind", 1)))
        self.assertEqual(group.call("a", ("add", "n", "1"), 5), error("copy"))

    def test_twin(self):
        group = Group(("b", "a"), stretch=2, queue=4, bound=100, policy="idle")
        group.join("a")
        group.call("b", ("add", "n", "1"), 5)
        group.fail_over(("b",))
        group.join("a")
        group.call("b", ("add", "n", "1"), 5)
        group.acknowledge("a")
        twin, before = group.twin(), told(group)
        self.assertEqual((told(twin), twin == group, Group(("a",)) == group), (before, True, False))
        twin.deliver("a", 9)
        twin.keep("b")
        twin.call("b", ("add", "m", "1"), 6)
        twin.fail_over(("a",))
        self.assertEqual((told(group), twin == group), (before, False))
        self.assertEqual((twin.head, twin.node("a").stand[0][-1][0], group.twin().fail_over(("b",)), group.fail_over(("b",))), ("a", 2, ("b", 2), ("b", 2)))
        self.unlike(group)

    def test_nodes_are_twins(self):
        group = Group(("a", "b"))
        node = group.node("a")
        node.call(("add", "n", "1"), 5)
        self.assertEqual((group.node("a").place, node.place), (0, 1))


class FailingOver(Case):
    def group(self):
        """A has six units; B has four, of which it keeps three; C has four and keeps three, too; D has three, all kept."""
        group = Group(("a", "b", "c", "d"))
        for name in "bcd":
            group.join(name)
        for at in range(6):
            group.call("a", ("add", "n", "1"), at)
        for name, many, kept in (("b", 4, 3), ("c", 4, 3), ("d", 3, 3)):
            group.deliver(name, many)
            group.keep(name, kept)
        return group

    def test_who_is_chosen(self):
        for asked, name, place in ((("d", "c", "b"), "b", 4), (("d", "c"), "c", 4), (("d",), "d", 3), (("a", "d"), "d", 3), (("a", "b", "c", "d"), "b", 4)):
            group = self.group()
            self.assertEqual((group.fail_over(asked), group.head, group.linked), ((name, place), name, ()))
            node = group.node(name)
            self.assertEqual((node.stand, node.kept_place, node.leads, group.node("a").leads), ((((0, 0), (1, place)), place), place, True, True))
        group = self.group()
        group.keep("a", 4)
        self.assertEqual((group.fail_over(("a", "b")), group.node("a").stand, group.node("a").kept_place), (("a", 6), (((0, 0), (1, 6)), 6), 6))

    def test_an_elder_head_leads_on(self):
        group = self.group()
        group.fail_over(("b",))
        group.join("c")
        self.assertEqual((group.call("a", ("add", "n", "1"), 9), group.call("b", ("add", "n", "1"), 9), group.queue("c")), (number(7), number(5), (("unit", (9, (("add", "n", "1"),))),)))
        self.assertEqual((group.judge("a", "b"), group.judge("c", "b"), group.judge("d", "a")), (("parted", 4), ("behind", 4), ("behind", 3)))
        self.assertEqual((group.join("a"), group.node("a").leads, group.call("a", ("add", "n", "1"), 9)), (("whole", 4, 3), False, error("copy")))
        group.deliver("a")
        self.assertEqual((group.judge("a", "b"), group.node("a").entries()), (("alike", 5), {"n": ("text", "5", None)}))

    def test_the_number_of_a_lead_decides_first(self):
        group = self.group()
        group.fail_over(("d",))
        group.keep("a")
        # D leads under the number 1 from 3 on; A has more units, but they are of the number 0.
        self.assertEqual((group.fail_over(("a", "d")), group.node("d").stand), (("d", 3), (((0, 0), (1, 3), (2, 3)), 3)))
        group.power("d")
        self.assertEqual((group.head, group.fail_over(("a",)), group.node("a").stand[0]), (None, ("a", 6), ((0, 0), (3, 6))))

    def test_just_as_many_are_not_enough(self):
        # Two of four keep the unit, two others are asked: it is lost.
        group = Group(("a", "b", "c", "d"))
        group.join("b")
        group.call("a", ("add", "n", "1"), 1)
        group.deliver("b")
        group.keep("a")
        group.keep("b")
        group.acknowledge("b")
        self.assertEqual((group.sure(2), group.fail_over(("c", "d")), group.node("c").entries()), (1, ("c", 0), {}))

    def test_units_of_earlier_numbers_alone(self):
        # Two of three keep a unit of the number 0, but B has led under 1 since: two are asked, and it is lost.
        group = Group(("a", "b", "c"))
        group.join("c")
        group.call("a", ("add", "n", "1"), 1)
        group.deliver("c")
        group.fail_over(("b",))
        self.assertEqual((group.keep("a"), group.keep("c"), group.judge("a", "c")), (1, 1, ("alike", 1)))
        self.assertEqual((group.fail_over(("b", "c")), group.node("b").entries(), group.join("c")), (("b", 0), {}, ("whole", 0, 1)))


class Runs(Case):
    def step(self, group, plain, times, seen):
        """Does one thing at a group and its model, if it can be done."""
        pick, names = times.pick, group.names
        name, what = pick.choice(names), pick.random()
        if what < 0.35:
            who = group.head if group.head is not None and pick.random() < 0.7 else name
            command = times.command()
            now = max(times.now, plain.nodes[who].now)
            self.assertEqual(group.call(who, command, now), plain.call(who, command, now))
        elif what < 0.5:
            if group.head is not None and name != group.head:
                way = group.join(name)
                self.assertEqual(way, plain.join(name))
                seen[way[0]] += 1
                seen["lost"] += way[2] > 0
        elif what < 0.7:
            if name in group.linked:
                many = pick.choice((0, 1, 1, 2, 9))
                self.assertEqual(group.deliver(name, many), plain.deliver(name, many))
        elif what < 0.8:
            many = pick.choice((None, 0, 1, 2))
            self.assertEqual(group.keep(name, many), plain.keep(name, many))
        elif what < 0.87:
            if name in group.linked:
                self.assertEqual(group.acknowledge(name), plain.acknowledge(name))
        elif what < 0.9:
            if name in group.linked:
                group.cut_link(name)
                del plain.links[name]
        elif what < 0.95:
            self.assertEqual(group.power(name), plain.power(name))
        elif plain.number < 18:
            asked = tuple(pick.sample(names, pick.randrange(1, len(names) + 1)))
            self.assertEqual(group.fail_over(asked), plain.fail_over(asked))
            seen["fail"] += 1

    def alike(self, group, plain):
        self.assertEqual((group.head, group.linked), (plain.head, tuple(sorted(plain.links))))
        for name, node in plain.nodes.items():
            one = group.node(name)
            self.assertEqual((one.stand, one.kept_place, one.kept_stand, one.leads), (node.stand(), node.kept, node.stand(node.kept), node.leads))
            self.assertEqual((one.stretch, one.line_time, one.now, one.entries()), (tuple(node.stretch), node.line_time(), node.now, node.entries()))
            self.assertEqual(group.queue(name), tuple(message[:4] for message in plain.links.get(name, ())))
            for other, another in plain.nodes.items():
                many = shared(node.line, another.line)
                words = {(True, True): "alike", (True, False): "behind", (False, True): "ahead", (False, False): "parted"}
                self.assertEqual(group.judge(name, other), (words[len(node.line) == many, len(another.line) == many], many))
        if plain.head is not None:
            self.assertEqual(group.known(), plain.known())
            for many in range(1, len(plain.nodes) + 1):
                self.assertEqual(group.sure(many), max(place for place in plain.known().values() if sum(one >= place for one in plain.known().values()) >= many))

    def test_beside_the_model(self):
        seen = collections.Counter()
        for seed in range(16):
            times = Times(seed + 1300, ["add", "set", "pushr", "del", "expireat", "get", "persist", "sadd", "popl"], keys=2)
            names = ("c", "a", "e", "b", "d")[:1 + seed % 5]
            stretch, queue = ((0, 1), (2, 3), (4, 4), (8, 16))[seed % 4]
            group, plain = Group(names, stretch=stretch, queue=queue), PlainGroup(names, stretch, queue)
            for _ in range(110):
                self.step(group, plain, times, seen)
                self.alike(group, plain)
                if times.pick.random() < 0.05:
                    twin = group.twin()
                    self.assertTrue(twin == group)
                    group = twin
        self.assertTrue(seen["part"] > 9 and seen["whole"] > 9 and seen["lost"] > 5 and seen["fail"] > 20, seen)

    def test_what_is_sure_is_never_lost(self):
        """[27.5]: what enough nodes kept while its number was the last one is in the line of each later head."""
        seen = collections.Counter()
        for seed in range(40):
            pick, names = chance(seed + 1400), ("a", "b", "c", "d", "e")[:2 + seed % 4]
            times, least = Times(seed + 1500, ["add", "set", "pushr"], keys=2), len(names) // 2 + 1 - (seed % 8 == 7)
            asked_least = len(names) + 1 - least
            group, plain, sure = Group(names, stretch=3, queue=4), PlainGroup(names, 3, 4), []
            for _ in range(150):
                if pick.random() < 0.06 and plain.number < 18:
                    asked = tuple(pick.sample(names, pick.randrange(asked_least, len(names) + 1)))
                    self.assertEqual(group.fail_over(asked), plain.fail_over(asked))
                    head = plain.nodes[plain.head]
                    self.assertEqual(head.line[:len(sure)], sure)
                    self.assertEqual(replay(tuple(unit for _, unit in head.line)), group.node(plain.head).entries())
                    seen["fail"] += 1
                    seen["sure"] += len(sure) > 0
                elif plain.number < 18 or pick.random() < 0.5:
                    self.step_without_failing(group, plain, times)
                if plain.head is None:
                    continue
                # Units of the head's last number that enough nodes keep.
                head = plain.nodes[plain.head]
                last = head.branch[-1][0]
                for place in range(len(head.line), len(sure), -1):
                    keeping = [node for node in plain.nodes.values() if node.kept >= place and node.line[:place] == head.line[:place]]
                    if head.line[place - 1][0] == last and len(keeping) >= least:
                        sure = head.line[:place]
                        break
        self.assertTrue(seen["fail"] > 100 and seen["sure"] > 50, seen)

    def step_without_failing(self, group, plain, times):
        """A step that fails over to no other head."""
        number_of = plain.number
        plain.number = 18
        self.step(group, plain, times, collections.Counter())
        plain.number = number_of

    def test_it_does_as_a_store(self):
        group = Group(("a", "b"), bound=60, policy="idle")
        self.assertEqual([group.call("a", words_of(line), 5) for line in ("set x 1", "set y 1", "set z 1", "get x", "get w", "set q " + "x" * 70)], [DONE, DONE, DONE, text("1"), ("none",), error("room")])
        self.assertEqual(group.call("a", words_of("set q " + "x" * 20), 6), DONE)
        self.assertEqual(sorted(group.node("a").entries()), ["q", "x"])
