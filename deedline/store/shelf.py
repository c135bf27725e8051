"""What a store keeps: values in their shapes, and the entries that they make."""

from deedline.plain.store import applied_to, unlike_keys
from deedline.shape.entries import held_size, kind_of, plain_of, shape_of, shaped
from deedline.shape.kept import Kept, copied
from deedline.shape.maps import Fields
from deedline.shape.packs import Pack
from deedline.shape.sets import Members
from deedline.shape.sorts import Scores

# The words by which a key gets a new entry in place of what it had.
_PLACING = ("set", "setall", "sdiffto", "sinterto", "sunionto", "zinterto", "zunionto")
_RENAMING = ("rename", "renamenew")


class Shelf(Kept):
    """The shaped values of some keys.

    `view` is the plain store that they make, with ascending keys. It is never changed, but replaced.
    """

    def __init__(self, bounds, entries):
        self._bounds = bounds
        self._things = {key: shaped(bounds, entry[0], entry[1]) for key, entry in entries.items()}
        self.view = {key: entries[key] for key in sorted(entries)}

    def apply(self, deed):
        """Applies a deed, and returns the ascending tuple of the keys whose entries it changed."""
        before = self.view
        after = applied_to(before, deed)
        keys = unlike_keys(before, after)
        self._reshape(deed, keys, before, after)
        for key in keys:
            if key in after:
                thing = self._things[key]
                after[key] = (kind_of(thing), plain_of(thing), after[key][2])
        self.view = after
        return keys

    def shape_at(self, key):
        """The shape word of the value of a key, or None."""
        return shape_of(self._things[key]) if key in self._things else None

    def whole_size(self):
        """The size of all keys with their entries."""
        return sum([held_size(key, entry) for key, entry in self.view.items()])

    def twin(self):
        """An independent equal shelf with the same shapes."""
        other = Shelf(self._bounds, {})
        other._things = copied(self._things)
        other.view = self.view
        return other

    def _reshape(self, deed, keys, before, after):
        """Gives the changed keys their values behind a deed."""
        word = deed[0]
        if word in _RENAMING and deed[1] in keys:
            # The value itself goes to the other key, also if that one's entry stays equal.
            self._things[deed[2]] = self._things.pop(deed[1])
            return
        for key in keys:
            if key not in after:
                del self._things[key]
            elif word == "copy":
                self._things[key] = _made_again(self._things[deed[1]])
            elif word == "hset":
                _put_pairs(self._map_at(key), deed[2:])
            elif word in _PLACING or key not in before or not _can_turn(before[key], after[key]):
                self._things[key] = shaped(self._bounds, after[key][0], after[key][1])
            else:
                _turn_to(self._things[key], before[key][1], after[key][1])

    def _map_at(self, key):
        """The map of a key, made if it is absent."""
        if key not in self._things:
            self._things[key] = Fields(self._bounds)
        return self._things[key]


def _made_again(thing):
    """The value that a copy gets."""
    if isinstance(thing, str):
        return thing
    return thing.twin() if isinstance(thing, Pack) else thing.anew()


def _put_pairs(fields, texts):
    """Puts fields and their texts, which stand by turns, pair by pair."""
    for at in range(0, len(texts), 2):
        fields.put(texts[at], texts[at + 1])


def _can_turn(before, after):
    """Whether an entry comes from another one by what is done to its value, and not by a new one."""
    return before[0] == after[0] and before[0] != "text"


def _turn_to(thing, before, after):
    """Changes a shaped value with one plain value as little as it needs to have another one."""
    if isinstance(thing, Pack):
        _turn_list(thing, before, after)
    elif isinstance(thing, Members):
        _take_all(thing, [text for text in before if text not in after])
        for text in after:
            if text not in before:
                thing.put(text)
    elif isinstance(thing, Scores):
        _take_all(thing, _names_gone([member for _, member in before], [member for _, member in after]))
        for score, member in after:
            if (score, member) not in before:
                thing.put(member, score)
    else:
        _take_all(thing, _names_gone([field for field, _ in before], [field for field, _ in after]))
        for field, text in after:
            if (field, text) not in before:
                thing.put(field, text)


def _take_all(thing, names):
    """Takes members or fields out."""
    for name in names:
        thing.take(name)


def _names_gone(before, after):
    """Those names of a list that another one lacks."""
    return [name for name in before if name not in after]


def _turn_list(pack, before, after):
    """Takes out and puts in what lies between the beginning and the end that two lists share."""
    least = min(len(before), len(after))
    start = 0
    while start < least and before[start] == after[start]:
        start += 1
    rest = 0
    while rest < least - start and before[-1 - rest] == after[-1 - rest]:
        rest += 1
    for _ in range(len(before) - rest - start):
        pack.take(start)
    for place in range(start, len(after) - rest):
        pack.put(place, after[place])
