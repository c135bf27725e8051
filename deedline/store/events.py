"""Listeners: what they want to be told of, and the messages that are made for them."""

from deedline.base.patterns import does_fit
from deedline.base.words import check_text
from deedline.errors import InvalidOperation
from deedline.plain.grammar import keys_of
from deedline.plain.store import applied_to, check_deed, check_unit
from deedline.plain.steps import behind
from deedline.shape.entries import check_store
from deedline.shape.kept import Kept

MAX_WANTED = 100
# The sorts of what is wanted, in the order in which they are told.
_CHANNELS = 0
_PATTERNS = 1
_KEYS = 2
_NOTHING = ((), (), ())


def events_of(entries, deed):
    """The tuple of the events of a deed that is applied to some entries."""
    check_store(entries)
    check_deed(deed)
    return _events_between(deed, entries, applied_to(entries, deed))


def unit_events(entries, unit):
    """The tuple of the events of a unit that is applied to some entries."""
    check_store(entries)
    check_unit(unit)
    events = []
    entries = behind(entries, {})
    for deed in unit[1]:
        after = applied_to(entries, deed)
        events.extend(_events_between(deed, entries, after))
        entries = after
    return tuple(events)


class Listeners(Kept):
    """The listeners of one store."""

    def __init__(self):
        # What is wanted, a triple of ascending tuples, of each who wants something.
        self._wanted = {}
        # The messages that were not taken, of each who has one.
        self._messages = {}

    @property
    def names(self):
        """The ascending tuple of the names of all listeners."""
        return tuple(sorted({**self._wanted, **self._messages}))

    def listen(self, name, *wanted):
        """Makes a listener want channels, and returns how much it wants."""
        return self._want(name, _CHANNELS, wanted)

    def match(self, name, *wanted):
        """Makes a listener want patterns of channels, and returns how much it wants."""
        return self._want(name, _PATTERNS, wanted)

    def events(self, name, *wanted):
        """Makes a listener want patterns of keys, and returns how much it wants."""
        return self._want(name, _KEYS, wanted)

    def unlisten(self, name, *wanted):
        """Ends what `listen` began, for these channels or for all."""
        return self._end(name, _CHANNELS, wanted)

    def unmatch(self, name, *wanted):
        """Ends what `match` began, for these patterns or for all."""
        return self._end(name, _PATTERNS, wanted)

    def unevents(self, name, *wanted):
        """Ends what `events` began, for these patterns or for all."""
        return self._end(name, _KEYS, wanted)

    def publish(self, channel, text):
        """Makes the messages of a published text, and returns how many."""
        check_text(channel)
        check_text(text)
        many = 0
        for name in self._wanting():
            channels, patterns, _ = self._wanted[name]
            messages = [("message", channel, text)] if channel in channels else []
            messages.extend([("match", pattern, channel, text) for pattern in patterns if does_fit(pattern, channel)])
            many += self._add(name, messages)
        return many

    def tell(self, entries, unit):
        """Makes the messages of the events of a unit that is applied to some entries, and returns how many."""
        return self._tell_events(unit_events(entries, unit))

    def replaced(self):
        """Makes the messages that stand for events that were missed, and returns how many."""
        many = 0
        for name in self._wanting():
            many += self._add(name, [("event", pattern, "replaced", "") for pattern in self._wanted[name][_KEYS]])
        return many

    def taken(self, name):
        """The tuple of the messages of a listener, which are kept no longer."""
        check_text(name)
        return tuple(self._messages.pop(name, []))

    def close(self, name):
        """Forgets a listener, and returns whether there was one."""
        check_text(name)
        was_there = name in self._wanted or name in self._messages
        self._wanted.pop(name, None)
        self._messages.pop(name, None)
        return was_there

    def wants(self, name):
        """The triple of the channels, the patterns of channels and the patterns of keys of a listener."""
        check_text(name)
        return self._wanted.get(name, _NOTHING)

    def twin(self):
        """Independent equal listeners."""
        other = Listeners()
        other._wanted = dict(self._wanted)
        other._messages = {name: list(self._messages[name]) for name in self._messages}
        return other

    def __len__(self):
        return len([message for name in self._messages for message in self._messages[name]])

    def _wanting(self):
        """The names of those who want something, ascending."""
        return sorted(self._wanted)

    def _want(self, name, sort, wanted):
        """Adds channels or patterns to those of a sort."""
        _check_told(name, wanted)
        rows = list(self.wants(name))
        rows[sort] = tuple(sorted(set([*rows[sort], *wanted])))
        if _many_in(rows) > MAX_WANTED:
            raise InvalidOperation("too much is wanted")
        return self._put_wanted(name, rows)

    def _end(self, name, sort, wanted):
        """Takes channels or patterns from those of a sort, or all if none are told."""
        _check_told(name, wanted)
        rows = list(self.wants(name))
        rows[sort] = tuple([text for text in rows[sort] if wanted and text not in wanted])
        return self._put_wanted(name, rows)

    def _put_wanted(self, name, rows):
        """Keeps what a listener wants, and returns how much that is."""
        self._wanted.pop(name, None)
        if _many_in(rows):
            self._wanted[name] = tuple(rows)
        return _many_in(rows)

    def _tell_events(self, events):
        """Makes the messages of some events, and returns how many."""
        many = 0
        for name in self._wanting():
            patterns = self._wanted[name][_KEYS]
            for word, key in events:
                fitting = [pattern for pattern in patterns if does_fit(pattern, key)]
                many += self._add(name, [("event", pattern, word, key) for pattern in fitting])
        return many

    def _add(self, name, messages):
        """Keeps messages of a listener, and returns how many."""
        if messages:
            self._messages.setdefault(name, []).extend(messages)
        return len(messages)


def _many_in(rows):
    """How much is wanted in all of some rows."""
    return sum([len(row) for row in rows])


def _check_told(name, wanted):
    """Raises InvalidText for the first of a name and what is wanted that is no text."""
    check_text(name)
    for text in wanted:
        check_text(text)


def _events_between(deed, before, after):
    """The tuple of the events of a deed between the entries ahead of it and behind it."""
    word = deed[0]
    if word in ("gone", "out"):
        keys = deed[1:]
    elif word == "clear":
        keys = sorted(before)
    else:
        keys = list({key: True for key in keys_of(deed)})
    return tuple([(_event_word(word, key, before, after), key) for key in keys if before.get(key) != after.get(key)])


def _event_word(word, key, before, after):
    """The word of the event of a key that a deed changed."""
    if word in ("gone", "out"):
        return word
    if key not in before:
        return "made"
    return "changed" if key in after else "dropped"
