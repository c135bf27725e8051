"""The bounds at which values change their shape, and lists of texts that are kept in nodes."""

from deedline.base.words import MAX_TEXT, check_text, check_within, is_text
from deedline.errors import InvalidOperation, TooMany
from deedline.shape.kept import Kept

MAX_MEMBERS = 200
_MAX_NODE_TEXTS = 64
_MAX_NODE_SIGNS = 1000


class Bounds:
    """The bounds at which values change their shape. They never change themselves."""

    def __init__(self, texts, signs, members, wide):
        check_within(texts, 1, _MAX_NODE_TEXTS)
        check_within(signs, 1, _MAX_NODE_SIGNS)
        check_within(members, 0, MAX_MEMBERS)
        check_within(wide, 0, MAX_TEXT)
        self._numbers = (texts, signs, members, wide)

    @classmethod
    def usual(cls):
        """The bounds that are taken if none are told."""
        return cls(8, 64, 16, 32)

    @property
    def texts(self):
        """The most texts of a node."""
        return self._numbers[0]

    @property
    def signs(self):
        """The most signs of the texts of a node, together."""
        return self._numbers[1]

    @property
    def members(self):
        """The most members of a row."""
        return self._numbers[2]

    @property
    def wide(self):
        """The most signs of a text in a row of pairs."""
        return self._numbers[3]

    def __eq__(self, other):
        return isinstance(other, Bounds) and self._numbers == other._numbers


class Pack(Kept):
    """A list of texts, kept in nodes."""

    def __init__(self, bounds, texts=()):
        check_bounds(bounds)
        check_row(texts)
        self._bounds = bounds
        self._nodes = []
        for place, text in enumerate(texts):
            self.put(place, text)

    @property
    def bounds(self):
        """The bounds of the nodes."""
        return self._bounds

    @property
    def nodes(self):
        """The tuple of the nodes."""
        return tuple(self._nodes)

    @property
    def plain(self):
        """The tuple of all texts."""
        return tuple([text for node in self._nodes for text in node])

    def put(self, place, text):
        """Puts a text in at a place."""
        check_within(place, 0, len(self))
        check_text(text)
        if len(self) == MAX_MEMBERS:
            raise TooMany(MAX_MEMBERS)
        index, at = self._end() if place == len(self) else self._found(place)
        node = self._nodes[index] if self._nodes else ()
        self._renew(index, (*node[:at], text, *node[at:]))

    def take(self, place):
        """Takes the text at a place out, and returns it."""
        check_within(place, 0, len(self) - 1)
        index, at = self._found(place)
        node = self._nodes[index]
        self._renew(index, node[:at] + node[at + 1:])
        return node[at]

    def change(self, place, text):
        """Puts another text in the place of one."""
        check_within(place, 0, len(self) - 1)
        check_text(text)
        index, at = self._found(place)
        node = self._nodes[index]
        self._renew(index, (*node[:at], text, *node[at + 1:]))

    def keep(self, start, end):
        """Takes out all texts but those with places from `start` on and below `end`."""
        self._check_ends(start, end)
        for place in reversed(range(len(self))):
            if place < start or place >= end:
                self.take(place)

    def part(self, start, end):
        """The tuple of the texts with places from `start` on and below `end`."""
        self._check_ends(start, end)
        return self.plain[start:end]

    def at(self, place):
        """The text at a place."""
        check_within(place, 0, len(self) - 1)
        return self.plain[place]

    def places_of(self, text):
        """The ascending tuple of the places of a text."""
        check_text(text)
        return tuple([place for place, one in enumerate(self.plain) if one == text])

    def twin(self):
        """An independent equal list with the same nodes."""
        other = Pack(self._bounds)
        other._nodes = list(self._nodes)
        return other

    def __len__(self):
        return len(self.plain)

    def __eq__(self, other):
        return isinstance(other, Pack) and self.plain == other.plain

    def _check_ends(self, start, end):
        check_within(start, 0, len(self))
        check_within(end, 0, len(self))

    def _end(self):
        """The index of the last node, or of the first one to be made, and the place at its end."""
        if not self._nodes:
            return 0, 0
        return len(self._nodes) - 1, len(self._nodes[-1])

    def _found(self, place):
        """The index of the node that has a place, and the place in it."""
        index = 0
        while place >= len(self._nodes[index]):
            place -= len(self._nodes[index])
            index += 1
        return index, place

    def _renew(self, index, texts):
        """Parts these texts, those of a node from now on, and joins what is loose around them."""
        first = max(0, index - 1)
        ahead = self._nodes[first:index]
        behind = self._nodes[index + 1:index + 2]
        nodes = [*ahead, *_parted(self._bounds, texts), *behind]
        self._nodes[first:index + 2] = _joined(self._bounds, nodes)


def is_nodes(bounds, value):
    """Whether the value is a tuple of nodes as a packed list has them."""
    check_bounds(bounds)
    if not isinstance(value, tuple) or not all([_is_node(node) for node in value]):
        return False
    if sum([len(node) for node in value]) > MAX_MEMBERS:
        return False
    are_loose = [_does_fit(bounds, value[at - 1] + value[at]) for at in range(1, len(value))]
    return all([_does_fit(bounds, node) for node in value]) and not any(are_loose)


def check_bounds(bounds):
    """Raises InvalidOperation if it is no Bounds."""
    if not isinstance(bounds, Bounds):
        raise InvalidOperation("no bounds")


def check_row(texts):
    """Raises InvalidOperation if it is no tuple, then InvalidText for a member that is no text."""
    if not isinstance(texts, tuple):
        raise InvalidOperation("no tuple of texts")
    for text in texts:
        check_text(text)


def _is_node(value):
    return isinstance(value, tuple) and len(value) > 0 and all([is_text(text) for text in value])


def _does_fit(bounds, node):
    """Whether a node of some texts fits."""
    if len(node) == 1:
        return True
    return len(node) <= bounds.texts and sum([len(text) for text in node]) <= bounds.signs


def _parted(bounds, texts):
    """The nodes to which texts go, from the left, each as long as it fits."""
    nodes = []
    for text in texts:
        if nodes and _does_fit(bounds, (*nodes[-1], text)):
            nodes[-1] = (*nodes[-1], text)
        else:
            nodes.append((text,))
    return nodes


def _joined(bounds, nodes):
    """The nodes, each put to the one ahead of it if these two are loose."""
    joined = []
    for node in nodes:
        if joined and _does_fit(bounds, joined[-1] + node):
            joined[-1] = joined[-1] + node
        else:
            joined.append(node)
    return joined
