"""Tables from names to values, whose buckets move step by step."""

from deedline.base.hashes import HASH_BITS, hash_of, reversed_bits
from deedline.base.words import check_text, check_within
from deedline.errors import InvalidOperation
from deedline.shape.kept import Kept, copied

_LEAST_BUCKETS = 4
_MOST_BUCKETS = 65536
_MAX_CURSOR = 65535
_MAX_COUNT = 1000


class Table(Kept):
    """A table from texts to values of any kind."""

    def __init__(self, spread=None):
        if isinstance(spread, (int, str, list, tuple, dict, Kept)):
            raise InvalidOperation("no function")
        self._spread = hash_of if spread is None else spread
        self._values = {}
        self._hashes = {}
        # All pairs (spot, name), ascending: a scan needs no look at the buckets.
        self._order = []
        self._buckets = _empty_buckets(_LEAST_BUCKETS)
        self._new_buckets = []
        self._moved = 0

    def put(self, name, value):
        """Keeps a value under a name, and returns whether the name is new."""
        check_text(name)
        self._step()
        is_new = name not in self._values
        self._values[name] = copied(value)
        if is_new:
            self._enter(name)
            self._grow()
        return is_new

    def get(self, name, other=None):
        """The value of a name, or `other` if it is not there."""
        check_text(name)
        self._step()
        if name not in self._values:
            return other
        return copied(self._values[name])

    def take(self, name, other=None):
        """Takes a name out, and returns its value, or `other` if it is not there."""
        check_text(name)
        self._step()
        if name not in self._values:
            return other
        value = self._values.pop(name)
        self._leave(name)
        self._shrink()
        return value

    def scan(self, cursor, count):
        """The pair (next, names) of the names from a cursor on, about so many."""
        check_within(cursor, 0, _MAX_CURSOR)
        check_within(count, 1, _MAX_COUNT)
        start = _first_place(self._order, (cursor, ""))
        if start == len(self._order):
            return (0, ())
        last = min(start + count, len(self._order)) - 1
        spot, _ = self._order[last]
        end = _first_place(self._order, (spot + 1, ""))
        names = tuple([name for _, name in self._order[start:end]])
        return (spot + 1 if end < len(self._order) else 0, names)

    def all_names(self):
        """The tuple of all names by spot."""
        return tuple([name for _, name in self._order])

    def all_items(self):
        """The tuple of all pairs (name, value) by spot."""
        return copied(self._held_items())

    def counts(self):
        """How many buckets, new buckets, moved buckets and names there are."""
        return (len(self._buckets), len(self._new_buckets), self._moved, len(self._values))

    def rows(self):
        """The pair of the tuple of all buckets and that of all new ones."""
        return (_frozen(self._buckets), _frozen(self._new_buckets))

    def twin(self):
        """An independent equal table with the same buckets."""
        other = Table(self._spread)
        other._values = copied(self._values)
        other._hashes = dict(self._hashes)
        other._order = list(self._order)
        other._buckets = copied(self._buckets)
        other._new_buckets = copied(self._new_buckets)
        other._moved = self._moved
        return other

    def __contains__(self, value):
        return isinstance(value, str) and value in self._values

    def __len__(self):
        return len(self._values)

    def __eq__(self, other):
        return isinstance(other, Table) and self._values == other._values

    def _held_items(self):
        """The pairs of `all_items`, but not copied: for an owner whose values never change."""
        return tuple([(name, self._values[name]) for _, name in self._order])

    def _step(self):
        """Moves one bucket if a move goes on."""
        if not self._new_buckets:
            return
        names = self._buckets[self._moved]
        self._buckets[self._moved] = []
        self._moved += 1
        for name in names:
            self._bucket_in(self._new_buckets, name).append(name)
        if self._moved == len(self._buckets):
            self._buckets = self._new_buckets
            self._new_buckets = []
            self._moved = 0

    def _enter(self, name):
        """Gives a new name its place in a bucket and in the order."""
        self._hashes[name] = self._spread(name)
        self._bucket_in(self._new_buckets or self._buckets, name).append(name)
        pair = self._pair_of(name)
        self._order.insert(_first_place(self._order, pair), pair)

    def _leave(self, name):
        """Takes a name out of its bucket and of the order."""
        bucket = self._bucket_in(self._buckets, name)
        if name not in bucket:
            bucket = self._bucket_in(self._new_buckets, name)
        bucket.remove(name)
        del self._order[_first_place(self._order, self._pair_of(name))]
        del self._hashes[name]

    def _bucket_in(self, buckets, name):
        return buckets[self._hashes[name] % len(buckets)]

    def _pair_of(self, name):
        return (reversed_bits(self._hashes[name], HASH_BITS), name)

    def _grow(self):
        """Begins a move to more buckets if there are too few."""
        many = len(self._values)
        if not self._new_buckets and len(self._buckets) < min(many, _MOST_BUCKETS):
            self._new_buckets = _empty_buckets(min(_buckets_for(many + 1), _MOST_BUCKETS))

    def _shrink(self):
        """Begins a move to fewer buckets if there are far too many."""
        many = len(self._values)
        if not self._new_buckets and len(self._buckets) >= max(8 * many, _LEAST_BUCKETS + 1):
            self._new_buckets = _empty_buckets(_buckets_for(2 * many))


def _empty_buckets(many):
    return [[] for at in range(many)]


def _buckets_for(many):
    """The fewest buckets that a table can have that are at least so many."""
    buckets = _LEAST_BUCKETS
    while buckets < many:
        buckets *= 2
    return buckets


def _frozen(buckets):
    return tuple([tuple(bucket) for bucket in buckets])


def _first_place(pairs, pair):
    """The index of the first of the ascending pairs that is not less than a pair."""
    low = 0
    high = len(pairs)
    while low < high:
        middle = (low + high) // 2
        if pairs[middle] < pair:
            low = middle + 1
        else:
            high = middle
    return low
