"""Which entries have run out at a time, and at which time spans end."""

from deedline.base.words import MAX_TIME, number_of, text_of


def is_over(entry, now):
    """Whether an entry has run out. At None nothing has."""
    _, _, until = entry
    return until is not None and now is not None and until <= now


def shown_at(entries, now):
    """The entries that have not run out, with ascending keys."""
    return {key: entries[key] for key in sorted(entries) if not is_over(entries[key], now)}


def over_keys(entries, now):
    """The tuple of the keys that have run out, in the order of running out."""
    pairs = [(entry[2], key) for key, entry in entries.items() if is_over(entry, now)]
    return tuple([key for _, key in sorted(pairs)])


def timed(command, now):
    """A right command with the time at which its span ends in place of the span, if it has one.

    It is None if the span ends above the greatest time.
    """
    if command[0] == "expire":
        key, span = command[1:3]
        end = max(0, now + number_of(span))
        return None if end > MAX_TIME else ("expireat", key, text_of(end), *command[3:])
    if command[0] == "set" and "for" in command[3:]:
        at = command.index("for", 3)
        end = now + number_of(command[at + 1])
        return None if end > MAX_TIME else (*command[:at], "until", text_of(end), *command[at + 2:])
    return command
