"""Sets of texts, kept as rows of whole numbers or as tables."""

from deedline.base.words import check_text, number_of, text_of
from deedline.errors import InvalidOperation, TooMany
from deedline.shape.kept import Kept
from deedline.shape.packs import MAX_MEMBERS, check_bounds, check_row
from deedline.shape.tables import Table


class Members(Kept):
    """A set of texts."""

    def __init__(self, bounds, texts=()):
        check_bounds(bounds)
        check_row(texts)
        self._bounds = bounds
        self._row = ()
        # None as long as the set is a row.
        self._table = None
        for text in texts:
            self.put(text)

    @property
    def bounds(self):
        """The bounds at which the set turns."""
        return self._bounds

    @property
    def shape(self):
        """The word "row" or "table"."""
        return "row" if self._table is None else "table"

    @property
    def row(self):
        """The ascending tuple of the whole numbers of a row, or None."""
        return self._row if self._table is None else None

    @property
    def figures(self):
        """The counts of the table, or None."""
        return None if self._table is None else self._table.counts()

    @property
    def plain(self):
        """The ascending tuple of the texts."""
        if self._table is None:
            return tuple(sorted([text_of(number) for number in self._row]))
        return tuple(sorted(self._table.all_names()))

    def put(self, text):
        """Puts a text in, and returns whether it was not there."""
        check_text(text)
        is_new = not self._does_have(text)
        if is_new and len(self) == MAX_MEMBERS:
            raise TooMany(MAX_MEMBERS)
        if is_new and self._does_turn(text):
            self._turn()
        if self._table is not None:
            return self._table.put(text, None)
        if is_new:
            self._row = tuple(sorted([*self._row, number_of(text)]))
        return is_new

    def take(self, text):
        """Takes a text out, and returns whether it was there."""
        check_text(text)
        if self._table is not None:
            # The value of each member is None.
            return self._table.take(text, "lacks") is None
        was_there = self._does_have(text)
        self._row = tuple([number for number in self._row if text_of(number) != text])
        return was_there

    def has(self, text):
        """Whether a text is there."""
        check_text(text)
        if self._table is not None:
            return self._table.get(text, "lacks") is None
        return self._does_have(text)

    def anew(self):
        """A set with the same bounds that is made of the members."""
        return Members(self._bounds, self.plain)

    def twin(self):
        """An independent equal set in the same shape."""
        other = Members(self._bounds)
        other._row = self._row
        if self._table is not None:
            other._table = self._table.twin()
        return other

    def __len__(self):
        return len(self._row if self._table is None else self._table)

    def __eq__(self, other):
        return isinstance(other, Members) and self.plain == other.plain

    def _does_have(self, text):
        """Whether a text is there, without a call of the table that moves a bucket."""
        if self._table is None:
            return number_of(text) in self._row
        return text in self._table

    def _does_turn(self, text):
        """Whether a row cannot have a text that is not there."""
        if self._table is not None:
            return False
        return number_of(text) is None or len(self._row) >= self._bounds.members

    def _turn(self):
        """Makes a table of the row."""
        texts = self.plain
        self._row = ()
        self._table = Table()
        for text in texts:
            self._table.put(text, None)


def united(bounds, *sets):
    """The set of the texts that are in at least one of some sets."""
    rows = _rows_of(bounds, sets)
    return Members(bounds, tuple(sorted(set([text for row in rows for text in row]))))


def shared(bounds, *sets):
    """The set of the texts that are in all of some sets."""
    rows = _rows_of(bounds, sets)
    first = rows[0] if rows else ()
    return Members(bounds, tuple([text for text in first if all([text in row for row in rows])]))


def parted(bounds, *sets):
    """The set of the texts that are in the first one of some sets and in no other one."""
    rows = _rows_of(bounds, sets)
    first = rows[0] if rows else ()
    return Members(bounds, tuple([text for text in first if not any([text in row for row in rows[1:]])]))


def _rows_of(bounds, sets):
    """The ascending tuples of the texts of some sets, behind a check of all arguments."""
    check_bounds(bounds)
    for one in sets:
        if not isinstance(one, Members):
            raise InvalidOperation("no set")
    return [one.plain for one in sets]
