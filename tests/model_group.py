"""A plain model of a group: it knows the whole line of each node, a row of pairs (number, unit)."""

from deedline.plain.grammar import does_write, first_error
from deedline.plain.store import do, replay
from tests.plain import error


class PlainNode:
    def __init__(self, leads):
        self.leads, self.branch, self.line, self.kept, self.stretch, self.now = leads, [(0, 0)], [], 0, [], 0

    def stand(self, place=None):
        place = len(self.line) if place is None else place
        return (tuple(pair for pair in self.branch if pair[1] <= place), place)

    def entries(self):
        return replay(tuple(unit for _, unit in self.line))

    def line_time(self):
        return self.line[-1][1][0] if self.line else 0

    def add(self, number, unit, most):
        self.line.append((number, unit))
        self.stretch = (self.stretch + [unit])[-most:] if most else []
        self.now = max(self.now, unit[0])


def shared(one, other):
    """How many units at the beginning of two lines are the same."""
    many = 0
    while many < min(len(one), len(other)) and one[many][0] == other[many][0]:
        assert one[many] == other[many]
        many += 1
    return many


class PlainGroup:
    def __init__(self, names, stretch, queue):
        self.nodes = {name: PlainNode(name == names[0]) for name in names}
        self.stretch, self.most, self.head, self.links, self.acknowledged, self.number = stretch, queue, names[0], {}, {}, 0

    def call(self, name, command, now):
        node = self.nodes[name]
        node.now = now
        reply, _, deeds = do(command, node.entries(), now)
        if not node.leads:
            wrong = first_error(command)
            return error(wrong) if wrong else error("copy") if does_write(command) else reply
        if deeds:
            unit = (now, deeds)
            node.add(node.branch[-1][0], unit, self.stretch)
            if name == self.head:
                for other in list(self.links):
                    self.links[other].append(("unit", unit))
                    if len(self.links[other]) > self.most:
                        del self.links[other]
        return reply

    def join(self, name):
        node, head = self.nodes[name], self.nodes[self.head]
        many = shared(node.line, head.line)
        lacking = len(head.line) - many
        node.leads = False
        if many == len(node.line) and lacking <= len(head.stretch):
            self.links[name] = [("unit", unit) for unit in head.stretch[len(head.stretch) - lacking:]]
            return "part", many, 0
        self.links[name] = [("whole", head.stand(), head.entries(), head.line_time(), list(head.line))]
        return "whole", many, len(node.line) - many

    def deliver(self, name, many):
        node, head = self.nodes[name], self.nodes[self.head]
        messages, self.links[name] = self.links[name][:many], self.links[name][many:]
        for message in messages:
            if message[0] == "unit":
                number = head.line[len(node.line)][0]
                node.add(number, message[1], self.stretch)
                node.branch = [pair for pair in head.branch if pair[1] <= len(node.line)]
            else:
                _, (branch, _), _, time, line = message
                node.branch, node.line, node.kept, node.stretch, node.now = list(branch), list(line), len(line), [], max(node.now, time)
        return len(messages)

    def keep(self, name, many):
        node = self.nodes[name]
        node.kept = len(node.line) if many is None else min(len(node.line), node.kept + many)
        return node.kept

    def acknowledge(self, name):
        node = self.nodes[name]
        self.acknowledged[name] = shared(node.line[:node.kept], self.nodes[self.head].line)
        return self.acknowledged[name]

    def known(self):
        return {name: self.nodes[name].kept if name == self.head else self.acknowledged.get(name, 0) for name in sorted(self.nodes)}

    def power(self, name):
        node = self.nodes[name]
        lost = len(node.line) - node.kept
        node.branch, node.line, node.stretch, node.leads = list(node.stand(node.kept)[0]), node.line[:node.kept], [], False
        self.links.pop(name, None)
        if name == self.head:
            self.head, self.links = None, {}
        return lost

    def fail_over(self, asked):
        def key(name):
            node = self.nodes[name]
            return -node.stand(node.kept)[0][-1][0], -node.kept, -len(node.line), name

        name = min(asked, key=key)
        node = self.nodes[name]
        self.number += 1
        node.branch.append((self.number, len(node.line)))
        node.leads, node.kept = True, len(node.line)
        self.head, self.links, self.acknowledged = name, {}, {}
        return name, len(node.line)
