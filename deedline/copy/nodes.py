"""Stands, which tell how far a copy of the line has come, and nodes that keep copies."""

from deedline.base.replies import error_reply
from deedline.base.words import (
    check_command, check_count, check_key, check_not_ahead, check_time, check_within, is_within,
)
from deedline.disk.texts import MAX_BRANCH, check_branch, is_branch
from deedline.errors import InvalidOperation
from deedline.plain.grammar import does_write, first_error
from deedline.plain.steps import behind
from deedline.plain.store import MAX_PLACE, applied_to, check_unit, done_at
from deedline.shape.entries import check_store
from deedline.shape.kept import Kept
from deedline.shape.packs import Bounds
from deedline.store.core import Store, check_options

MAX_STRETCH = 60
_FIRST_STAND = (((0, 0),), 0)


def is_stand(value):
    """Whether the value is a stand."""
    if not isinstance(value, tuple) or len(value) != 2:
        return False
    branch, place = value
    return is_branch(branch) and is_within(place, branch[-1][1], MAX_PLACE)


def cut(stand, place):
    """A stand cut at a place."""
    check_stand(stand)
    check_within(place, 0, stand[1])
    return _cut(stand, place)


def shared_place(one, other):
    """The shared place of two stands."""
    check_stand(one)
    check_stand(other)
    return _shared(one, other)


def judged(one, other):
    """How two stands stand to one another, and their shared place."""
    shared = shared_place(one, other)
    is_behind, is_ahead = one[1] == shared, other[1] == shared
    if is_behind and is_ahead:
        return ("alike", shared)
    if is_behind:
        return ("behind", shared)
    return ("ahead" if is_ahead else "parted", shared)


def is_later(one, other):
    """Whether a stand is later than another one."""
    check_stand(one)
    check_stand(other)
    return lateness(one) > lateness(other)


def lateness(stand):
    """The pair of the last number of a stand and its place: that of a later stand is greater."""
    branch, place = stand
    return (branch[-1][0], place)


class Node(Kept):
    """Keeps a copy of the entries at a place of the line, and leads or follows."""

    def __init__(
        self, name, stand=None, entries=None, *, leads=True, stretch=8, bounds=None, bound=None, policy="refuse",
    ):
        stand = _FIRST_STAND if stand is None else stand
        entries = {} if entries is None else entries
        bounds = Bounds.usual() if bounds is None else bounds
        check_key(name)
        check_stand(stand)
        check_store(entries)
        if not isinstance(leads, bool):
            raise InvalidOperation("neither True nor False")
        check_within(stretch, 0, MAX_STRETCH)
        check_options(bounds, bound, policy)
        self._name = name
        self._options = {"bounds": bounds, "bound": bound, "policy": policy}
        self._most = stretch
        self._now = 0
        self._put_at(stand, entries, 0)
        # The store that does the commands while the node leads, otherwise None.
        self._core = self._new_core() if leads else None

    @property
    def name(self):
        """The name."""
        return self._name

    @property
    def stand(self):
        """The stand."""
        return (self._branch, self.place)

    @property
    def place(self):
        """The place of the stand."""
        return self._kept_place + len(self._history) - 1

    @property
    def kept_place(self):
        """The place up to which the node's disk has the line."""
        return self._kept_place

    @property
    def kept_stand(self):
        """The stand that the node's disk has."""
        return _cut(self.stand, self._kept_place)

    @property
    def stretch(self):
        """The tuple of the last units."""
        return self._stretch

    @property
    def leads(self):
        """Whether the node leads."""
        return self._core is not None

    @property
    def line_time(self):
        """The time of the last unit at the place, 0 if none is known."""
        return self._history[-1][1]

    @property
    def now(self):
        """The greatest time at which the node was called, or which was its line time."""
        return self._now

    def entries(self):
        """The plain store."""
        return dict(self._history[-1][0])

    def call(self, command, now):
        """Does a command, and returns the reply and the tuple of the units that came."""
        check_command(command)
        check_not_ahead(now, self._now)
        self._now = now
        if self._core is None:
            return self._read(command, now), ()
        place = self._core.place
        reply = self._core.call(command, now)
        units = self._core.units_from(place)
        for unit in units:
            self._enter(unit, self._core.kept())
        return reply, units

    def apply(self, unit, branch):
        """Applies a unit that was made under a branch."""
        check_unit(unit)
        check_branch(branch)
        place = self.place + 1
        after = (_begun(branch, place), place)
        if self.leads or _shared(self.stand, after) < self.place or unit[0] < self.line_time:
            raise InvalidOperation("no unit that comes next here")
        entries = self._history[-1][0]
        for deed in unit[1]:
            entries = applied_to(entries, deed)
        self._branch = after[0]
        self._enter(unit, entries)

    def load(self, stand, entries, time):
        """Puts the node at another stand with other entries, all kept. It follows then."""
        check_stand(stand)
        check_store(entries)
        check_time(time)
        self._put_at(stand, entries, time)
        self.follow()

    def keep(self, many=None):
        """Moves the kept place ahead by so many units, or all, and returns it."""
        open_units = len(self._history) - 1
        if many is not None:
            check_count(many)
            open_units = min(many, open_units)
        self._history = self._history[open_units:]
        self._kept_place += open_units
        return self._kept_place

    def lose_power(self):
        """Puts the node at its kept stand, and returns how many units were lost. It follows then."""
        lost = self.place - self._kept_place
        self._branch, _ = self.kept_stand
        self._history = self._history[:1]
        self._stretch = ()
        self.follow()
        return lost

    def follow(self):
        """Makes the node follow."""
        self._core = None

    def lead(self, number):
        """Makes the node lead under a number. All is kept then."""
        check_within(number, self._branch[-1][0] + 1, MAX_PLACE)
        if len(self._branch) == MAX_BRANCH:
            raise InvalidOperation("a branch that is full")
        self._core = self._new_core()
        self._branch = (*self._branch, (number, self.place))
        self.keep()

    def twin(self):
        """An independent equal node."""
        other = Node(self._name, leads=False, stretch=self._most)
        other._options = dict(self._options)
        other._now = self._now
        other._branch = self._branch
        other._kept_place = self._kept_place
        other._history = list(self._history)
        other._stretch = self._stretch
        other._core = None if self._core is None else self._core.twin()
        return other

    def __eq__(self, other):
        return isinstance(other, Node) and self._figures() == other._figures()

    def _figures(self):
        """All in which equal nodes are equal."""
        return (
            self._name, self._most, self._options, self.stand, self._kept_place, self._stretch, self.leads,
            self._history[-1], self._now,
        )

    def _put_at(self, stand, entries, time):
        """Puts the node at a stand, all kept."""
        self._branch, self._kept_place = stand
        # The entries and the line time at each place from the kept one on. The entries are never changed.
        self._history = [(behind(entries, {}), time)]
        self._stretch = ()
        self._now = max(self._now, time)

    def _new_core(self):
        """A store that does commands from the place on."""
        snapshot = (self.entries(), self.place, self._now)
        return Store.loaded(snapshot, **self._options)

    def _enter(self, unit, entries):
        """Goes one place ahead, with the entries behind a unit."""
        self._history.append((entries, unit[0]))
        row = (*self._stretch, unit)
        self._stretch = row[max(0, len(row) - self._most):]
        self._now = max(self._now, unit[0])

    def _read(self, command, now):
        """The reply to a command while the node follows."""
        error = first_error(command)
        if error is None and does_write(command):
            error = "copy"
        if error is not None:
            return error_reply(error)
        reply, _, _ = done_at(command, self._history[-1][0], now)
        return reply


def check_stand(stand):
    """Raises InvalidOperation if it is no stand."""
    if not is_stand(stand):
        raise InvalidOperation("no stand")


def _begun(branch, place):
    """Those pairs of a branch that begin at a place or ahead."""
    return tuple([pair for pair in branch if pair[1] <= place])


def _cut(stand, place):
    """What `cut` returns, with arguments that are right."""
    branch, _ = stand
    return (_begun(branch, place), place)


def _shared(one, other):
    """What `shared_place` returns, with arguments that are right."""
    places = [one[1], other[1]]
    if one[0] != other[0]:
        places.append(_limit(one[0], other[0]))
    return min(places)


def _limit(one, other):
    """The limit of two unlike branches."""
    at = 0
    while one[at:at + 1] == other[at:at + 1]:
        at += 1
    return min([begin for _, begin in one[at:at + 1] + other[at:at + 1]])
