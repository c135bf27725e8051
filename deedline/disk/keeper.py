"""A store whose units are kept in a log on a disk."""

from deedline.base.words import check_command, check_count, check_not_ahead, check_within
from deedline.disk.disk import Disk
from deedline.disk.texts import block_text, is_branch, log_text, read_log
from deedline.errors import (
    BadLetters, DeedError, InvalidNumber, InvalidOperation, InvalidTime, PowerLost, Refused, TooMany, UnknownName,
)
from deedline.plain.store import MAX_PLACE, replay
from deedline.shape.kept import Kept
from deedline.store.core import Store

LOG = "log"
NEW = "log.new"
RULES = ("always", "never", "timed")
_FIRST_BRANCH = ((0, 0),)
_MAX_SPAN = 10 ** 15


class Keeper:
    """Does what is asked at a store, and writes its units in a log."""

    def __init__(self, disk, number, *, rule="always", span=1000, **options):
        if not isinstance(disk, Disk):
            raise InvalidOperation("no disk")
        check_within(number, 1, MAX_PLACE)
        if rule not in RULES:
            raise InvalidOperation("no rule")
        check_within(span, 1, _MAX_SPAN)
        branch, snapshot, units = _found(disk)
        after = _behind(snapshot, units)
        # A number that is not greater, or one pair too many, makes no branch.
        branch = (*branch, (number, after[1]))
        if not is_branch(branch):
            raise InvalidOperation("a number that is not greater, or a branch that is full")
        self._store = Store.loaded(after, **options)
        self._disk = disk
        self._rule = rule
        self._span = span
        self._branch = branch
        # Up to which places the units are written, and synced.
        self._written = self._store.place
        self._synced = self._store.place
        # While rewriting goes on, the place of its snapshot, and what is still to be written up to there.
        self._from = None
        self._rest = ""
        self._is_closed = False
        self._is_lost = False
        _come_up(disk, log_text(branch, snapshot, units))

    @property
    def place(self):
        """The place behind the last unit."""
        return self._store.place

    @property
    def last(self):
        """The time of the last unit, or the first time of the store."""
        return self._store.last

    @property
    def branch(self):
        """The branch of the log."""
        return self._branch

    @property
    def open_units(self):
        """The number of units whose blocks are not synced."""
        return self._store.place - self._synced

    @property
    def is_rewriting(self):
        """Whether rewriting goes on."""
        return self._from is not None

    def call(self, command, now):
        """Does a command, and returns the reply."""
        self._check_open()
        check_command(command)
        self._begin_call(now)
        reply = self._store.call(command, now)
        self._write_units()
        return reply

    def act(self, action, now):
        """Returns what a function returns for the store, whose units are written also if it raises an error."""
        self._check_open()
        if action is None or isinstance(action, (int, str, list, tuple, dict, Kept)):
            raise InvalidOperation("no function")
        self._begin_call(now)
        try:
            told = action(self._store)
        except (
            DeedError, InvalidTime, InvalidNumber, TooMany, UnknownName, BadLetters, PowerLost, Refused,
        ):
            self._write_units()
            raise
        self._write_units()
        return told

    def sync(self):
        """Syncs the log."""
        self._check_open()
        self._sync_log()

    def close(self):
        """Stops a rewriting, and syncs the log. Nothing is written behind this."""
        self._check_open()
        if self.is_rewriting:
            self._stop_rewriting()
        self._sync_log()
        self._is_closed = True

    def start(self):
        """Starts rewriting."""
        self._check_open()
        if self.is_rewriting:
            raise Refused("rewriting")
        self._is_lost = True
        self._disk.create(NEW)
        self._is_lost = False
        self._from = self._store.place
        self._rest = log_text(self._branch, self._store.snapshot(), ())

    def go_on(self, many):
        """Writes the next signs of the head line and the snapshot, and returns how many are left."""
        self._check_open()
        check_count(many, 1)
        self._check_rewriting()
        if self._rest:
            self._is_lost = True
            self._disk.append(NEW, self._rest[:many])
            self._is_lost = False
            self._rest = self._rest[many:]
        return len(self._rest)

    def finish(self):
        """Finishes rewriting: what was rewritten is the log now."""
        self._check_open()
        self._check_rewriting()
        self._is_lost = True
        self._disk.append(NEW, self._rest + self._blocks_from(self._from))
        _put_in_place(self._disk)
        self._is_lost = False
        self._synced = self._store.place
        self._from = None

    def stop(self):
        """Stops rewriting: nothing of it stays."""
        self._check_open()
        self._check_rewriting()
        self._stop_rewriting()

    def kept(self):
        """The plain store of what is kept."""
        return self._store.kept()

    def shown(self, now):
        """The plain store of what is shown at a time."""
        return self._store.shown(now)

    def _check_open(self):
        """Raises an error if nothing can be done any more."""
        if self._is_lost:
            raise PowerLost(self._disk.done)
        if self._is_closed:
            raise InvalidOperation("closed")

    def _check_rewriting(self):
        """Raises Refused if no rewriting goes on."""
        if not self.is_rewriting:
            raise Refused("rewriting")

    def _begin_call(self, now):
        """What comes ahead of all that the store does at a time."""
        check_not_ahead(now, self._store.now)
        units = self._store.units_from(self._synced)
        # The first one of them has the least time.
        if self._rule == "timed" and units and units[0][0] <= now - self._span:
            self._sync_log()

    def _write_units(self):
        """Writes the units that the store made since the last call."""
        signs = self._blocks_from(self._written)
        if signs:
            self._is_lost = True
            self._disk.append(LOG, signs)
            self._is_lost = False
            self._written = self._store.place
            if self._rule == "always":
                self._sync_log()

    def _blocks_from(self, place):
        """The blocks of all units from a place on."""
        return "".join([block_text(unit) for unit in self._store.units_from(place)])

    def _sync_log(self):
        """Syncs the log, to which all units were written."""
        self._is_lost = True
        self._disk.sync(LOG)
        self._is_lost = False
        self._synced = self._written

    def _stop_rewriting(self):
        """Removes what was rewritten."""
        self._is_lost = True
        self._disk.remove(NEW)
        self._is_lost = False
        self._from = None


def _found(disk):
    """The branch, the snapshot and the units of the log on a disk."""
    if LOG not in disk:
        return _FIRST_BRANCH, ({}, 0, 0), ()
    branch, snapshot, units, _ = read_log(disk.read(LOG))
    return branch, snapshot, units


def _behind(snapshot, units):
    """The snapshot behind some units."""
    entries, place, time = snapshot
    return replay(units, entries), place + len(units), units[-1][0] if units else time


def _come_up(disk, log):
    """Puts a log on a disk."""
    if NEW in disk:
        disk.remove(NEW)
    disk.create(NEW)
    disk.append(NEW, log)
    _put_in_place(disk)


def _put_in_place(disk):
    """Makes what was rewritten the log."""
    disk.sync(NEW)
    disk.rename(NEW, LOG)
    disk.sync_names()
