"""Running out, sweeping, and how room is made."""

from deedline.base.words import check_key, check_time, check_within, is_count, is_key
from deedline.errors import InvalidOperation
from deedline.plain.times import over_keys, shown_at
from deedline.shape.entries import check_store, held_size
from deedline.shape.kept import Kept

POLICIES = ("idle", "nearest", "refuse")
MAX_BUDGET = 200
MAX_BOUND = 10 ** 12


def run_out(entries, now):
    """The tuple of the keys that have run out at a time, in the order of running out."""
    check_store(entries)
    check_time(now)
    return over_keys(entries, now)


def sweep_deeds(entries, now, budget):
    """The tuple of the deeds of a sweep that takes at most so many keys."""
    check_store(entries)
    check_time(now)
    check_within(budget, 0, MAX_BUDGET)
    return tuple([("gone", key) for key in over_keys(entries, now)[:budget]])


def order_out(entries, now, policy, marks):
    """The tuple of the shown keys that can be put out, in the order of the policy."""
    check_store(entries)
    check_time(now)
    check_policy(policy)
    _check_marks(marks)
    return _ordered_out(entries, now, policy, marks)


def room_deeds(entries, now, bound, policy, marks, named):
    """The tuple of the deeds by which room is made behind a unit that names some keys, or None."""
    check_store(entries)
    check_time(now)
    check_within(bound, 1, MAX_BOUND)
    check_policy(policy)
    _check_marks(marks)
    _check_named(named)
    return room_made(entries, now, bound, policy, marks, named)


def room_made(entries, now, bound, policy, marks, named):
    """What `room_deeds` returns, with arguments that are right."""
    size = sum([held_size(key, entry) for key, entry in entries.items()])
    out = [key for key in _ordered_out(entries, now, policy, marks) if key not in named]
    ways = [("gone", key) for key in over_keys(entries, now)] + [("out", key) for key in out]
    many = 0
    while size > bound and many < len(ways):
        _, key = ways[many]
        size -= held_size(key, entries[key])
        many += 1
    return tuple(ways[:many]) if size <= bound else None


class Marks(Kept):
    """The marks of the keys of a store: the number of the last command that used each."""

    def __init__(self):
        self._marks = {}
        self._count = 0

    def use(self, *keys):
        """Counts a command, gives its number to some keys, and returns it."""
        _check_keys(keys)
        self._count += 1
        for key in keys:
            self._marks[key] = self._count
        return self._count

    def forget(self, *keys):
        """Takes the marks of some keys away, and returns how many there were."""
        _check_keys(keys)
        many = len(self._marks)
        for key in keys:
            self._marks.pop(key, None)
        return many - len(self._marks)

    def mark_of(self, key):
        """The mark of a key, 0 if it has none."""
        check_key(key)
        return self._marks.get(key, 0)

    def table(self):
        """The dict of all marks but 0."""
        return {key: self._marks[key] for key in sorted(self._marks)}

    def twin(self):
        """Independent equal marks."""
        other = Marks()
        other._marks = dict(self._marks)
        other._count = self._count
        return other

    def __len__(self):
        return len(range(self._count))

    def __eq__(self, other):
        return isinstance(other, Marks) and self._marks == other._marks and self._count == other._count


def _ordered_out(entries, now, policy, marks):
    """What `order_out` returns, with arguments that are right."""
    there = shown_at(entries, now)
    if policy == "idle":
        pairs = [(marks.get(key, 0), key) for key in there]
    elif policy == "nearest":
        pairs = [(there[key][2], key) for key in there if there[key][2] is not None]
    else:
        pairs = []
    return tuple([key for _, key in sorted(pairs)])


def check_policy(policy):
    """Raises InvalidOperation if it is no policy."""
    if policy not in POLICIES:
        raise InvalidOperation("no policy")


def _check_marks(marks):
    """Raises InvalidOperation if it is no dict from keys to marks."""
    if not isinstance(marks, dict) or not all([is_key(key) and is_count(mark) for key, mark in marks.items()]):
        raise InvalidOperation("no marks")


def _check_named(named):
    """Raises InvalidOperation if it is no tuple of keys."""
    if not isinstance(named, tuple) or not all([is_key(key) for key in named]):
        raise InvalidOperation("no tuple of keys")


def _check_keys(keys):
    """Raises InvalidText for the first that is no key."""
    for key in keys:
        check_key(key)
