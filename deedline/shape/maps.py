"""Maps from fields to texts, kept as rows or as tables."""

from deedline.base.words import check_text, is_text
from deedline.errors import InvalidOperation, TooMany
from deedline.shape.kept import Kept
from deedline.shape.packs import MAX_MEMBERS, check_bounds
from deedline.shape.tables import Table


class Fields(Kept):
    """A map: different fields with texts."""

    def __init__(self, bounds, pairs=()):
        check_bounds(bounds)
        _check_pairs(pairs)
        self._bounds = bounds
        # A dict keeps the order in which its keys were put.
        self._row = {}
        # None as long as the map is a row.
        self._table = None
        for field, text in pairs:
            self.put(field, text)

    @property
    def bounds(self):
        """The bounds at which the map turns."""
        return self._bounds

    @property
    def shape(self):
        """The word "row" or "table"."""
        return "row" if self._table is None else "table"

    @property
    def row(self):
        """The tuple of the pairs of a row, in the order in which they were put, or None."""
        if self._table is None:
            return tuple(self._row.items())
        return None

    @property
    def figures(self):
        """The counts of the table, or None."""
        return None if self._table is None else self._table.counts()

    @property
    def plain(self):
        """The tuple of all pairs, ascending."""
        if self._table is None:
            return tuple(sorted(self._row.items()))
        return tuple(sorted(self._table._held_items()))

    def put(self, field, text):
        """Puts a pair in, and returns whether the field was not there."""
        check_text(field)
        check_text(text)
        is_new = not self._does_have(field)
        if is_new and len(self) == MAX_MEMBERS:
            raise TooMany(MAX_MEMBERS)
        if self._table is None and self._does_turn(field, text, is_new):
            self._turn()
        if self._table is not None:
            return self._table.put(field, text)
        self._row[field] = text
        return is_new

    def take(self, field):
        """Takes a field out, and returns its text, or None if it is not there."""
        check_text(field)
        if self._table is not None:
            return self._table.take(field)
        if field in self._row:
            return self._row.pop(field)
        return None

    def text_of(self, field):
        """The text of a field, or None if it is not there."""
        check_text(field)
        if self._table is not None:
            return self._table.get(field)
        return self._row.get(field)

    def anew(self):
        """A map with the same bounds that is made of the pairs."""
        return Fields(self._bounds, self.plain)

    def twin(self):
        """An independent equal map in the same shape."""
        other = Fields(self._bounds)
        other._row = dict(self._row)
        if self._table is not None:
            other._table = self._table.twin()
        return other

    def __len__(self):
        return len(self._row if self._table is None else self._table)

    def __eq__(self, other):
        return isinstance(other, Fields) and self.plain == other.plain

    def _does_have(self, field):
        """Whether a field is there, without a call of the table that moves a bucket."""
        if self._table is None:
            return field in self._row
        return field in self._table

    def _does_turn(self, field, text, is_new):
        """Whether a row cannot have a pair."""
        if len(field) > self._bounds.wide or len(text) > self._bounds.wide:
            return True
        return is_new and len(self._row) >= self._bounds.members

    def _turn(self):
        """Makes a table of the row."""
        self._table = Table()
        for field, text in self._row.items():
            self._table.put(field, text)
        self._row = {}


def _check_pairs(pairs):
    """Raises InvalidOperation if it is no tuple of pairs of two texts."""
    if not isinstance(pairs, tuple) or not all([is_text_pair(pair) for pair in pairs]):
        raise InvalidOperation("no tuple of pairs of two texts")


def is_text_pair(value):
    """Whether the value is a pair of two texts."""
    return isinstance(value, tuple) and len(value) == 2 and is_text(value[0]) and is_text(value[1])
