"""Sorted pairs of scores and members, kept in skip lists."""

from deedline.base.hashes import hash_of
from deedline.base.words import check_text, check_whole, check_within, is_text, is_whole
from deedline.errors import InvalidOperation, TooMany
from deedline.shape.kept import Kept
from deedline.shape.packs import MAX_MEMBERS

MAX_HEIGHT = 8


class Skips(Kept):
    """A skip list of pairs (score, member)."""

    def __init__(self, pairs=()):
        check_pairs(pairs)
        self._scores = {}
        self._levels = [Level(1)]
        for score, member in pairs:
            self.put(member, score)

    @property
    def plain(self):
        """The tuple of all pairs, ascending."""
        return tuple([(self._scores[member], member) for member, _ in self._levels[0].told()[1:]])

    @property
    def levels(self):
        """The tuple of the levels from the lowest on, each the tuple of its links (member, span)."""
        return tuple([level.told() for level in self._levels])

    def put(self, member, score):
        """Gives a member a score, and returns whether something changed."""
        check_text(member)
        check_whole(score)
        known = self._scores.get(member)
        if known is None and len(self) == MAX_MEMBERS:
            raise TooMany(MAX_MEMBERS)
        if known == score:
            return False
        if known is not None:
            self._leave(member)
        self._enter(member, score)
        return True

    def take(self, member):
        """Takes a member out, and returns its score, or None if it is not there."""
        check_text(member)
        if member not in self._scores:
            return None
        return self._leave(member)

    def score_of(self, member):
        """The score of a member, or None if it is not there."""
        check_text(member)
        return self._scores.get(member)

    def place_of(self, member):
        """The index of a member in the ascending order, or None if it is not there."""
        check_text(member)
        if member not in self._scores:
            return None
        _, rank, _ = self._path_to(self._scores[member], member)[0]
        return rank

    def steps_of(self, member):
        """How many links the search for a member takes, or None if it is not there."""
        check_text(member)
        if member not in self._scores:
            return None
        _, _, steps = self._path_to(self._scores[member], member)[0]
        return steps

    def at(self, place):
        """The pair with an index."""
        check_within(place, 0, len(self) - 1)
        member = self._member_at(place + 1)
        return (self._scores[member], member)

    def part(self, start, end):
        """The tuple of the pairs with indices from `start` on and below `end`."""
        check_within(start, 0, len(self))
        check_within(end, 0, len(self))
        pairs = []
        member = self._member_at(start)
        for _ in range(start, end):
            member = self._levels[0].links[member]
            pairs.append((self._scores[member], member))
        return tuple(pairs)

    def below(self, score, *, also=False):
        """How many pairs have a lower score, with `also` this or a lower one."""
        check_whole(score)
        check_also(also)
        # No member is less than the empty text.
        _, rank, _ = self._path_to(score + 1 if also else score, "")[0]
        return rank

    def twin(self):
        """An independent equal skip list."""
        return Skips(self.plain)

    def __len__(self):
        return len(self._scores)

    def __eq__(self, other):
        return isinstance(other, Skips) and self._scores == other._scores

    def _path_to(self, score, member):
        """Where the search for a pair goes down from each level, the lowest one first.

        Each place is the last member ahead of the pair there, or None for the head, with its
        rank and the number of links that were taken so far.
        """
        path = []
        at = None
        rank = steps = 0
        for level in reversed(self._levels):
            while self._is_ahead(level.links[at], score, member):
                rank += level.spans[at]
                steps += 1
                at = level.links[at]
            path.append((at, rank, steps))
        path.reverse()
        return path

    def _is_ahead(self, one, score, member):
        return one is not None and (self._scores[one], one) < (score, member)

    def _member_at(self, rank):
        """The member with a rank, or None for that of the head."""
        member = None
        for level in reversed(self._levels):
            while level.spans[member] <= rank:
                rank -= level.spans[member]
                member = level.links[member]
        return member

    def _enter(self, member, score):
        """Puts a member in that is not there."""
        path = self._path_to(score, member)
        height = height_of(member)
        while len(self._levels) < height:
            self._levels.append(Level(len(self) + 1))
            path.append((None, 0, 0))
        _, rank, _ = path[0]
        for at, level in enumerate(self._levels):
            ahead, rank_ahead, _ = path[at]
            if at < height:
                level.put(member, ahead, rank + 1 - rank_ahead)
            else:
                level.widen(ahead, 1)
        self._scores[member] = score

    def _leave(self, member):
        """Takes a member out that is there, and returns its score."""
        path = self._path_to(self._scores[member], member)
        for at, level in enumerate(self._levels):
            ahead, _, _ = path[at]
            if member in level.links:
                level.take(member, ahead)
            else:
                level.widen(ahead, -1)
        while len(self._levels) > 1 and self._levels[-1].links[None] is None:
            self._levels.pop()
        return self._scores.pop(member)


class Level:
    """The links of a level and their spans, by the members from which they lead.

    The head, from which the first link leads, and the end, to which the last one leads, are None.
    """

    def __init__(self, span):
        self.links = {None: None}
        self.spans = {None: span}

    def told(self):
        """The tuple of the pairs (member, span) of the links, in order."""
        # Properties run this, and a disk's method is called `append`: nothing here may be called so.
        pairs = []
        member = None
        for _ in self.links:
            pairs += [(member, self.spans[member])]
            member = self.links[member]
        return tuple(pairs)

    def put(self, member, ahead, span):
        """Puts a member in behind the one ahead, from which the span to it is told."""
        self.links[member] = self.links[ahead]
        self.spans[member] = self.spans[ahead] + 1 - span
        self.links[ahead] = member
        self.spans[ahead] = span

    def take(self, member, ahead):
        """Takes a member out behind the one ahead."""
        self.links[ahead] = self.links.pop(member)
        self.spans[ahead] += self.spans.pop(member) - 1

    def widen(self, ahead, more):
        """Makes the span of a link greater, for a pair that comes or goes below it."""
        self.spans[ahead] += more


def height_of(text):
    """On how many levels a member with this text stands."""
    code = hash_of(text)
    height = 1
    while code & 1 and height < MAX_HEIGHT:
        code = code >> 1
        height += 1
    return height


def is_levels(pairs, value):
    """Whether the value is the levels of a skip list with these pairs."""
    if Skips(pairs).levels != value:
        return False
    # True equals 1, but is no span.
    return not any([isinstance(span, bool) for level in value for _, span in level])


def check_pairs(pairs):
    """Raises InvalidOperation if it is no tuple of pairs (score, member)."""
    if not isinstance(pairs, tuple) or not all([is_score_pair(pair) for pair in pairs]):
        raise InvalidOperation("no tuple of pairs of a score and a member")


def check_also(also):
    """Raises InvalidOperation if it is no boolean."""
    if not isinstance(also, bool):
        raise InvalidOperation("no boolean")


def is_score_pair(value):
    """Whether the value is a pair (score, member)."""
    return isinstance(value, tuple) and len(value) == 2 and is_whole(value[0]) and is_text(value[1])
