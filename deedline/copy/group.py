"""A group of nodes: a head, links to it, and failing over."""

from deedline.base.words import check_count, check_within, is_key
from deedline.copy.nodes import MAX_STRETCH, Node, judged, lateness, shared_place
from deedline.disk.texts import MAX_BRANCH
from deedline.errors import InvalidOperation, Refused, UnknownName
from deedline.shape.kept import Kept, copied

MAX_NODES = 5
MAX_QUEUE = 60


class Group(Kept):
    """Nodes of which one is the head, whose units the others get by links."""

    def __init__(self, names, *, stretch=8, queue=16, bounds=None, bound=None, policy="refuse"):
        if not _are_names(names):
            raise InvalidOperation("no tuple of one to five different keys")
        check_within(stretch, 0, MAX_STRETCH)
        check_within(queue, max(1, stretch), MAX_QUEUE)
        self._most = queue
        self._nodes = {
            name: Node(
                name, leads=name == names[0], stretch=stretch, bounds=bounds, bound=bound, policy=policy,
            ) for name in sorted(names)
        }
        self._head = names[0]
        # The messages of each node that has a link, in order.
        self._links = {}
        # The places that nodes acknowledged to the head, and the number under which it leads.
        self._known = {}
        self._number = 0

    @property
    def names(self):
        """The ascending tuple of the names of the nodes."""
        return tuple(self._nodes)

    @property
    def head(self):
        """The name of the head, or None."""
        return self._head

    @property
    def linked(self):
        """The ascending tuple of the names of the nodes with a link."""
        return tuple(sorted(self._links))

    def node(self, name):
        """A twin of a node."""
        return self._node(name).twin()

    def queue(self, name):
        """The tuple of the messages of the link of a node, () without one."""
        self._node(name)
        return tuple([copied(message) for message in self._links.get(name, [])])

    def call(self, name, command, now):
        """Calls a node, and returns the reply."""
        reply, units = self._node(name).call(command, now)
        if name == self._head:
            for unit in units:
                self._send(("unit", unit))
        return reply

    def keep(self, name, many=None):
        """Moves the kept place of a node ahead, and returns it."""
        return self._node(name).keep(many)

    def join(self, name):
        """Lets a node join: the way, the shared place, and how many units the node has behind it."""
        node = self._node(name)
        head = self._head_node()
        if name == self._head:
            raise Refused("itself")
        shared = shared_place(node.stand, head.stand)
        lost = node.place - shared
        # Where the stretch begins of those units that the node lacks.
        start = len(head.stretch) - (head.place - shared)
        node.follow()
        if lost == 0 and start >= 0:
            self._links[name] = [("unit", unit) for unit in head.stretch[start:]]
            return ("part", shared, lost)
        self._links[name] = [("whole", head.stand, head.entries(), head.line_time)]
        return ("whole", shared, lost)

    def deliver(self, name, many=1):
        """Lets a node apply or load the first messages of its queue, and returns how many."""
        node = self._node(name)
        check_count(many)
        self._check_link(name)
        queue = self._links[name]
        branch, _ = self._head_node().stand
        for message in queue[:many]:
            if message[0] == "unit":
                node.apply(message[1], branch)
            else:
                _, stand, entries, time = message
                node.load(stand, entries, time)
        self._links[name] = queue[many:]
        return min(many, len(queue))

    def cut_link(self, name):
        """Takes a link away."""
        self._node(name)
        self._check_link(name)
        del self._links[name]

    def acknowledge(self, name):
        """Lets the head know up to which place a node keeps its line, and returns it."""
        node = self._node(name)
        self._check_link(name)
        self._known[name] = shared_place(node.kept_stand, self._head_node().stand)
        return self._known[name]

    def known(self):
        """The dict from names to the places up to which the head knows that nodes keep its line."""
        head = self._head_node()
        return {name: head.kept_place if name == self._head else self._known.get(name, 0) for name in self._nodes}

    def sure(self, many):
        """The greatest place that at least so many nodes are known to keep."""
        check_within(many, 1, len(self._nodes))
        known = self.known()
        return sorted(known.values(), reverse=True)[many - 1]

    def power(self, name):
        """Makes a node lose its power and its link, and returns how many units were lost."""
        lost = self._node(name).lose_power()
        if name == self._head:
            self._head = None
            self._links = {}
        self._links.pop(name, None)
        return lost

    def fail_over(self, asked):
        """Chooses a head among the nodes that are asked, and returns its name and place."""
        if not self._are_asked(asked):
            raise InvalidOperation("no tuple of different names of nodes")
        name = self._latest(asked)
        node = self._nodes[name]
        if len(node.stand[0]) == MAX_BRANCH:
            raise Refused("branch")
        self._number += 1
        node.lead(self._number)
        self._head = name
        self._links = {}
        self._known = {}
        return (name, node.place)

    def judge(self, name, other):
        """What is judged of the stands of two nodes."""
        one = self._node(name)
        return judged(one.stand, self._node(other).stand)

    def twin(self):
        """An independent equal group."""
        other = Group(self.names, queue=MAX_QUEUE)
        other._most = self._most
        other._nodes = copied(self._nodes)
        other._head = self._head
        other._links = copied(self._links)
        other._known = dict(self._known)
        other._number = self._number
        return other

    def __eq__(self, other):
        return isinstance(other, Group) and self._figures() == other._figures()

    def _figures(self):
        """All in which equal groups are equal."""
        return (self._most, self._nodes, self._head, self._links, self._known, self._number)

    def _node(self, name):
        """The node with a name."""
        if not isinstance(name, str) or name not in self._nodes:
            raise UnknownName(name)
        return self._nodes[name]

    def _head_node(self):
        """The node that is the head."""
        if self._head is None:
            raise Refused("head")
        return self._nodes[self._head]

    def _check_link(self, name):
        """Raises Refused if a node has no link."""
        if name not in self._links:
            raise Refused("link")

    def _send(self, message):
        """Puts a message in all queues. The link of one that is full breaks."""
        self._links = {name: [*self._links[name], message] for name in self._links
                       if len(self._links[name]) < self._most}

    def _are_asked(self, value):
        """Whether the value is a tuple of at least one different name of nodes."""
        if not isinstance(value, tuple) or not value:
            return False
        names = [name for name in value if isinstance(name, str) and name in self._nodes]
        return len(names) == len(value) == len(set(names))

    def _latest(self, names):
        """The name of the node with the latest kept stand; among several, the greatest place decides, then the name."""
        rows = [(lateness(self._nodes[name].kept_stand), self._nodes[name].place) for name in names]
        return min([name for name, row in zip(names, rows) if row == max(rows)])


def _are_names(value):
    """Whether the value is a tuple of one to five different keys."""
    if not isinstance(value, tuple) or not 1 <= len(value) <= MAX_NODES:
        return False
    return all([is_key(name) for name in value]) and len(set(value)) == len(value)
