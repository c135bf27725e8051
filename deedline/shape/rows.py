"""Rows of sorted pairs, for few of them: what skip lists are for many."""

from deedline.base.words import check_text, check_whole, check_within
from deedline.shape.kept import Kept
from deedline.shape.skips import check_also


class Row(Kept):
    """An ascending row of pairs (score, member). Who puts looks at what is put, and how many there are."""

    def __init__(self, pairs=()):
        self._pairs = pairs

    @property
    def plain(self):
        """The tuple of all pairs, ascending."""
        return self._pairs

    def put(self, member, score):
        """Gives a member a score, and returns whether something changed."""
        if (score, member) in self._pairs:
            return False
        self.take(member)
        self._pairs = tuple(sorted([*self._pairs, (score, member)]))
        return True

    def take(self, member):
        """Takes a member out, and returns its score, or None if it is not there."""
        score = self.score_of(member)
        self._pairs = tuple([pair for pair in self._pairs if pair[1] != member])
        return score

    def score_of(self, member):
        """The score of a member, or None if it is not there."""
        place = self.place_of(member)
        return None if place is None else self._pairs[place][0]

    def place_of(self, member):
        """The index of a member in the ascending order, or None if it is not there."""
        check_text(member)
        for place, (_, one) in enumerate(self._pairs):
            if one == member:
                return place
        return None

    def at(self, place):
        """The pair with an index."""
        check_within(place, 0, len(self) - 1)
        return self._pairs[place]

    def part(self, start, end):
        """The tuple of the pairs with indices from `start` on and below `end`."""
        check_within(start, 0, len(self))
        check_within(end, 0, len(self))
        return self._pairs[start:end]

    def below(self, score, *, also):
        """How many pairs have a lower score, with `also` this or a lower one."""
        check_whole(score)
        check_also(also)
        return len([one for one, _ in self._pairs if one < score or also and one == score])

    def twin(self):
        """An independent equal row."""
        return Row(self._pairs)

    def __len__(self):
        return len(self._pairs)
