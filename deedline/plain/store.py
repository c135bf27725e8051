"""The plain store: commands done at a time, and the deeds that they make."""

from deedline.base.replies import error_reply
from deedline.base.words import check_command, check_time, is_command, is_key, is_time, is_within
from deedline.errors import InvalidCommand, InvalidOperation
from deedline.plain.grammar import does_write, first_error, keys_of
from deedline.plain.keys import keys_step
from deedline.plain.lists import LIST_WORDS, list_step
from deedline.plain.maps import MAP_WORDS, map_step
from deedline.plain.sets import SET_WORDS, set_step
from deedline.plain.sorts import SORTED_WORDS, sorted_step
from deedline.plain.steps import behind
from deedline.plain.texts import TEXT_WORDS, text_step
from deedline.plain.times import is_over, over_keys, shown_at, timed
from deedline.shape.entries import MAX_KEYS, check_entry, check_store, is_store

MAX_BLOCK = 64
MAX_PLACE = 10 ** 12


def is_deed(value):
    """Whether the value is a deed."""
    if not isinstance(value, tuple) or not value:
        return False
    if value[0] in ("gone", "out"):
        return len(value) == 2 and is_key(value[1])
    if not is_command(value) or not does_write(value) or first_error(value) is not None:
        return False
    # A command with a span hangs on the time at which it is done.
    return timed(value, 0) == value


def is_unit(value):
    """Whether the value is a unit."""
    if not isinstance(value, tuple) or len(value) != 2:
        return False
    time, deeds = value
    if not is_time(time) or not isinstance(deeds, tuple) or not deeds:
        return False
    return all([is_deed(deed) for deed in deeds])


def is_line(value):
    """Whether the value is a tuple of units whose times ascend, not strictly."""
    if not isinstance(value, tuple) or not all([is_unit(unit) for unit in value]):
        return False
    return all([value[at - 1][0] <= value[at][0] for at in range(1, len(value))])


def has_run_out(entry, now):
    """Whether an entry has run out at a time."""
    check_entry(entry)
    check_time(now)
    return is_over(entry, now)


def shown(entries, now):
    """The plain store of what is shown at a time."""
    check_store(entries)
    check_time(now)
    return shown_at(entries, now)


def do(command, entries, now):
    """The reply to a command at a time, the entries behind it, and the deeds that it makes."""
    check_command(command)
    check_store(entries)
    check_time(now)
    return done_at(command, behind(entries, {}), now)


def do_block(commands, entries, now):
    """The replies to some commands, done one after another at one time, the entries, and all deeds."""
    check_block(commands)
    check_store(entries)
    check_time(now)
    replies, deeds = [], []
    entries = behind(entries, {})
    for command in commands:
        reply, entries, made = done_at(command, entries, now)
        replies.append(reply)
        deeds.extend(made)
    return tuple(replies), entries, tuple(deeds)


def resolved(command, now):
    """The deed that a writing command makes if it changes something."""
    check_command(command)
    if not does_write(command) or first_error(command) is not None:
        raise InvalidCommand("not right, or not writing")
    check_time(now)
    deed = timed(command, now)
    if deed is None:
        raise InvalidCommand("a span that ends too late")
    return deed


def apply(entries, deed):
    """The entries behind a deed."""
    check_store(entries)
    check_deed(deed)
    return applied_to(behind(entries, {}), deed)


def changed_keys(entries, deed):
    """The ascending tuple of the keys whose entries are unlike behind a deed."""
    return unlike_keys(entries, apply(entries, deed))


def replay(units, entries=None):
    """The entries behind some units."""
    if not is_line(units):
        raise InvalidOperation("no line")
    if entries is None:
        entries = {}
    check_store(entries)
    entries = behind(entries, {})
    for _, deeds in units:
        for deed in deeds:
            entries = applied_to(entries, deed)
    return entries


def check_block(commands):
    """Raises InvalidCommand if it is no tuple of commands, or they are too many for a block."""
    if not isinstance(commands, tuple) or len(commands) > MAX_BLOCK:
        raise InvalidCommand("no tuple of commands")
    for command in commands:
        check_command(command)


def check_deed(deed):
    """Raises InvalidOperation if it is no deed."""
    if not is_deed(deed):
        raise InvalidOperation("no deed")


def check_unit(unit):
    """Raises InvalidOperation if it is no unit."""
    if not is_unit(unit):
        raise InvalidOperation("no unit")


def is_snapshot(value):
    """Whether the value is a triple of a plain store, the place behind which it was kept, and a time."""
    if not isinstance(value, tuple) or len(value) != 3:
        return False
    entries, place, time = value
    return is_store(entries) and is_within(place, 0, MAX_PLACE) and is_time(time)


def check_snapshot(snapshot):
    """Raises InvalidOperation if it is no snapshot."""
    if not is_snapshot(snapshot):
        raise InvalidOperation("no snapshot")


def unlike_keys(before, after):
    """The ascending tuple of the keys whose entries are unlike in two plain stores."""
    return tuple([key for key in sorted({**before, **after}) if before.get(key) != after.get(key)])


def _step(command, entries, now):
    """The step of a right command whose span, if it has one, is resolved."""
    word = command[0]
    if word in TEXT_WORDS:
        return text_step(command, entries)
    if word in LIST_WORDS:
        return list_step(command, entries)
    if word in SET_WORDS:
        return set_step(command, entries)
    if word in MAP_WORDS:
        return map_step(command, entries)
    if word in SORTED_WORDS:
        return sorted_step(command, entries)
    return keys_step(command, entries, now)


def done_at(command, entries, now):
    """What `do` returns, with arguments that are right."""
    error = first_error(command)
    if error is not None:
        return error_reply(error), entries, ()
    if not does_write(command):
        reply, _ = _step(command, shown_at(entries, now), now)
        return reply, entries, ()
    deed = timed(command, now)
    if deed is None:
        return error_reply("range"), entries, ()
    return _written(deed, entries, now)


def _written(deed, entries, now):
    """What a writing command whose span is resolved answers, makes of the entries, and makes of deeds."""
    taken = _taken_keys(deed, entries, now)
    entries = _without(entries, taken)
    reply, changes = _step(deed, entries, None)
    after = behind(entries, changes)
    if after == entries:
        return reply, entries, _gone(taken)
    further = _further_keys(deed, after, now)
    if len(after) - len(further) > MAX_KEYS:
        return error_reply("size"), entries, _gone(taken)
    return reply, _without(after, further), (*_gone(taken), *_gone(further), deed)


def applied_to(entries, deed):
    """The entries behind a deed, with arguments that are right."""
    if deed[0] in ("gone", "out"):
        return _without(entries, deed[1:])
    # There can be no more entries than a plain store has: the deed would reply with an error.
    _, changes = _step(deed, entries, None)
    after = behind(entries, changes)
    return entries if len(after) > MAX_KEYS else after


def _taken_keys(deed, entries, now):
    """The tuple of the keys that a writing command takes as it begins, in its order."""
    over = over_keys(entries, now)
    if deed[0] == "clear":
        return over
    named = {key: True for key in keys_of(deed)}
    return tuple([key for key in named if key in over])


def _further_keys(deed, after, now):
    """The tuple of the keys that are taken because there are too many, as many as are needed if there are."""
    lacking = max(0, len(after) - MAX_KEYS)
    named = keys_of(deed)
    return tuple([key for key in over_keys(after, now) if key not in named][:lacking])


def _without(entries, keys):
    """The entries but for some keys."""
    return {key: entries[key] for key in entries if key not in keys}


def _gone(keys):
    """The deeds by which keys that have run out are taken."""
    return tuple([("gone", key) for key in keys])
