"""Sorted sets, kept as rows or as skip lists."""

from deedline.base.words import check_text, check_whole
from deedline.errors import TooMany
from deedline.shape.kept import Kept
from deedline.shape.packs import MAX_MEMBERS, check_bounds
from deedline.shape.rows import Row
from deedline.shape.skips import Skips, check_pairs
from deedline.shape.tables import Table


class Scores(Kept):
    """A sorted set: different members with scores."""

    def __init__(self, bounds, pairs=()):
        check_bounds(bounds)
        check_pairs(pairs)
        self._bounds = bounds
        # A Row, or Skips with a table from the members to their scores beside it.
        self._pairs = Row()
        self._table = None
        for score, member in pairs:
            self.put(member, score)

    @property
    def bounds(self):
        """The bounds at which the sorted set turns."""
        return self._bounds

    @property
    def shape(self):
        """The word "row" or "skips"."""
        return "row" if self._table is None else "skips"

    @property
    def levels(self):
        """The levels of the skip list, or None."""
        return None if self._table is None else self._pairs.levels

    @property
    def plain(self):
        """The tuple of all pairs, ascending."""
        return self._pairs.plain

    def put(self, member, score):
        """Gives a member a score, and returns whether something changed."""
        check_text(member)
        check_whole(score)
        is_new = self.score_of(member) is None
        if is_new and len(self) == MAX_MEMBERS:
            raise TooMany(MAX_MEMBERS)
        if is_new and self._table is None and self._does_turn(member):
            self._turn()
        if self._table is not None:
            self._table.put(member, score)
        return self._pairs.put(member, score)

    def take(self, member):
        """Takes a member out, and returns its score, or None if it is not there."""
        score = self._pairs.take(member)
        if self._table is not None:
            self._table.take(member)
        return score

    def score_of(self, member):
        """The score of a member, or None if it is not there."""
        if self._table is not None:
            return self._table.get(member)
        return self._pairs.score_of(member)

    def place_of(self, member):
        """The index of a member in the ascending order, or None if it is not there."""
        return self._pairs.place_of(member)

    def at(self, place):
        """The pair with an index."""
        return self._pairs.at(place)

    def part(self, start, end):
        """The tuple of the pairs with indices from `start` on and below `end`."""
        return self._pairs.part(start, end)

    def below(self, score, *, also=False):
        """How many pairs have a lower score, with `also` this or a lower one."""
        return self._pairs.below(score, also=also)

    def anew(self):
        """A sorted set with the same bounds that is made of the pairs."""
        return Scores(self._bounds, self.plain)

    def twin(self):
        """An independent equal sorted set in the same shape."""
        other = Scores(self._bounds)
        other._pairs = self._pairs.twin()
        if self._table is not None:
            other._table = self._table.twin()
        return other

    def __len__(self):
        return len(self._pairs)

    def __eq__(self, other):
        return isinstance(other, Scores) and self.plain == other.plain

    def _does_turn(self, member):
        """Whether a row cannot have a member that is not there."""
        return len(member) > self._bounds.wide or len(self) >= self._bounds.members

    def _turn(self):
        """Makes a skip list of the row, and the table beside it."""
        pairs = self.plain
        self._pairs = Skips(pairs)
        self._table = Table()
        for score, member in pairs:
            self._table.put(member, score)
