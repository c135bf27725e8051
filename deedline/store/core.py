"""The store: one line of deeds, and what it makes."""

from deedline.base.replies import error_reply, list_reply
from deedline.base.words import check_command, check_key, check_not_ahead, check_time, check_within
from deedline.errors import InvalidOperation, InvalidStore
from deedline.plain.grammar import keys_of
from deedline.plain.store import MAX_PLACE, check_block, check_snapshot, check_unit, done_at
from deedline.plain.times import is_over, over_keys, shown_at
from deedline.shape.entries import check_store
from deedline.shape.kept import Kept
from deedline.shape.packs import Bounds, check_bounds
from deedline.store.room import MAX_BOUND, MAX_BUDGET, Marks, check_policy, room_made
from deedline.store.shelf import Shelf

_OPTIONS = ("bounds", "bound", "policy")


class Store(Kept):
    """Does commands on what it keeps, and puts what they change in a line of units."""

    def __init__(self, entries=None, *, bounds=None, bound=None, policy="refuse", place=0, now=0):
        entries = {} if entries is None else entries
        bounds = Bounds.usual() if bounds is None else bounds
        check_store(entries)
        check_options(bounds, bound, policy)
        check_within(place, 0, MAX_PLACE)
        check_time(now)
        self._bounds = bounds
        self._bound = bound
        self._policy = policy
        self._first_place = place
        self._now = now
        self._last = now
        self._shelf = Shelf(bounds, entries)
        self._marks = Marks()
        self._units = []
        # For each unit what each of its deeds changed.
        self._changed = []
        if bound is not None and self.size > bound:
            raise InvalidOperation("more than the bound lets")

    @classmethod
    def loaded(cls, snapshot, **options):
        """The store that begins with a snapshot."""
        check_snapshot(snapshot)
        if any([name not in _OPTIONS for name in options]):
            raise InvalidOperation("an option that is unknown")
        entries, place, last = snapshot
        bounds, bound = options.get("bounds"), options.get("bound")
        return cls(entries, bounds=bounds, bound=bound, policy=options.get("policy", "refuse"), place=place, now=last)

    @property
    def bounds(self):
        """The bounds at which values change their shape."""
        return self._bounds

    @property
    def bound(self):
        """The greatest size of what is kept, or None."""
        return self._bound

    @property
    def policy(self):
        """What is put out for want of room."""
        return self._policy

    @property
    def begin(self):
        """The place at which the line begins here."""
        return self._first_place

    @property
    def units(self):
        """The tuple of all units since then."""
        return tuple(self._units)

    @property
    def place(self):
        """The place behind the last unit."""
        return self._first_place + len(self._units)

    @property
    def now(self):
        """The greatest time at which the store was called."""
        return self._now

    @property
    def last(self):
        """The time of the last unit, or the first time."""
        return self._last

    @property
    def size(self):
        """The size of what is kept."""
        return self._shelf.whole_size()

    def call(self, command, now):
        """Does a command, and returns the reply."""
        check_command(command)
        self._move_to(now)
        replies = self._did((command,), now)
        return error_reply("room") if replies is None else replies[0]

    def block(self, commands, now):
        """Does some commands as one unit, and returns the list of the replies, or the error "room"."""
        check_block(commands)
        self._move_to(now)
        replies = self._did(commands, now)
        return error_reply("room") if replies is None else list_reply(replies)

    def sweep(self, now, budget):
        """Takes keys that have run out, at most so many, and returns how many."""
        check_not_ahead(now, self._now)
        check_within(budget, 0, MAX_BUDGET)
        self._now = now
        deeds = tuple([("gone", key) for key in over_keys(self._shelf.view, now)[:budget]])
        if deeds:
            self._enter((now, deeds))
        return len(deeds)

    def apply(self, unit):
        """Applies the deeds of a unit, and returns for each the keys whose entries it changed."""
        check_unit(unit)
        self._move_to(unit[0])
        self._enter(unit)
        return self._changed[-1]

    def kept(self):
        """The plain store of what is kept."""
        return {key: entry for key, entry in self._shelf.view.items()}

    def shown(self, now):
        """The plain store of what is shown at a time."""
        check_time(now)
        return shown_at(self._shelf.view, now)

    def entry(self, key):
        """The kept entry of a key, or None."""
        check_key(key)
        return self._shelf.view.get(key)

    def shape_at(self, key):
        """The shape word of the value of a key, or None."""
        check_key(key)
        return self._shelf.shape_at(key)

    def marks(self):
        """The dict of all marks."""
        return self._marks.table()

    def snapshot(self):
        """The triple of what is kept, the place, and the time of the last unit."""
        return (self.kept(), self.place, self._last)

    def units_from(self, place):
        """The tuple of the units from a place on."""
        check_within(place, self._first_place, self.place)
        return tuple(self._units[place - self._first_place:])

    def changed(self, place):
        """For each deed of the unit at a place the ascending tuple of the keys whose entries it changed."""
        check_within(place, self._first_place, self.place - 1)
        return self._changed[place - self._first_place]

    def twin(self):
        """An independent equal store with the same shapes and marks."""
        other = Store(bounds=self._bounds, policy=self._policy, place=self._first_place, now=self._now)
        other._bound = self._bound
        other._last = self._last
        other._shelf = self._shelf.twin()
        other._marks = self._marks.twin()
        other._units = list(self._units)
        other._changed = list(self._changed)
        return other

    def __len__(self):
        return len(self._shelf.view)

    def __contains__(self, value):
        return isinstance(value, str) and value in self._shelf.view

    def __iter__(self):
        return iter(self._shelf.view)

    def __eq__(self, other):
        return isinstance(other, Store) and self._shelf.view == other._shelf.view and self.place == other.place

    def _move_to(self, now):
        """Makes a time that of the store: InvalidTime if it is none, or less."""
        check_not_ahead(now, self._now)
        self._now = now

    def _did(self, commands, now):
        """Does commands as one unit, and returns the replies, or None if the unit is refused."""
        marks = self._marks.twin()
        replies, entries, deeds = _worked_out(commands, self._shelf.view, marks, now)
        room = ()
        if deeds and self._bound is not None:
            named = tuple([key for command in commands for key in keys_of(command)])
            room = room_made(entries, now, self._bound, self._policy, marks.table(), named)
        if room is None:
            return None
        if deeds:
            out = _dropped_keys(room)
            marks.forget(*out)
            self._enter((now, (*deeds, *room)))
        self._marks = marks
        return replies

    def _enter(self, unit):
        """Puts a unit in the line, and applies its deeds."""
        changed = []
        for deed in unit[1]:
            keys = self._shelf.apply(deed)
            absent = [key for key in keys if key not in self._shelf.view]
            self._marks.forget(*absent)
            changed.append(keys)
        self._units.append(unit)
        self._changed.append(tuple(changed))
        self._last = unit[0]


def check_is_store(store):
    """Raises InvalidStore if it is no Store."""
    if not isinstance(store, Store):
        raise InvalidStore("no store")


def check_options(bounds, bound, policy):
    """Raises an error for the first of the options of a store that cannot be."""
    check_bounds(bounds)
    if bound is not None:
        check_within(bound, 1, MAX_BOUND)
    check_policy(policy)


def _worked_out(commands, entries, marks, now):
    """The replies to commands, the entries behind them, and their deeds. It counts them in the marks."""
    replies, deeds = [], []
    for command in commands:
        reply, entries, made = done_at(command, entries, now)
        replies.append(reply)
        deeds.extend(made)
        _count(marks, command, reply, made, entries, now)
    return tuple(replies), entries, tuple(deeds)


def _count(marks, command, reply, deeds, entries, now):
    """Counts a command in the marks, behind which there are these entries."""
    # A key that was taken was absent, also if the command made it again.
    taken = _dropped_keys(deeds)
    absent = [key for key in marks.table() if key not in entries or key in taken]
    marks.forget(*absent)
    if reply[0] != "error":
        there = [key for key in keys_of(command) if key in entries and not is_over(entries[key], now)]
        marks.use(*there)


def _dropped_keys(deeds):
    """The keys that the deeds called gone and out drop."""
    return [deed[1] for deed in deeds if deed[0] in ("gone", "out")]
