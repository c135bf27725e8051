"""The words of sorted sets."""

from deedline.base.replies import NONE, list_reply, number_reply, text_reply, texts_reply
from deedline.base.words import clipped, is_whole, number_of
from deedline.plain.bounds import is_between, score_bound, text_bound
from deedline.plain.grammar import keys_of, options_of
from deedline.plain.steps import behind, check_call, refused, renewed, replaced, stepped, value_at

SORTED_WORDS = (
    "zadd", "zbetween", "zdrop", "zinterto", "zpop", "zraise", "zrange", "zrank", "zrem", "zscore", "zsize",
    "zunionto",
)


def do_sorted(command, entries):
    """The reply to a right command with one of these words at a plain store, and the plain store behind it."""
    check_call(command, entries, SORTED_WORDS)
    reply, changes = sorted_step(command, entries)
    return reply, behind(entries, changes)


def sorted_step(command, entries):
    """The step of a right command with one of these words."""
    keys, kinds = keys_of(command), ("sorted",)
    if command[0] in ("zunionto", "zinterto"):
        keys, kinds = keys[1:], ("set", "sorted")
    action = _ACTIONS[command[0]]
    return stepped(action, command, entries, keys, kinds)


def _scores_at(entries, key):
    """The dict from the members of a key to their scores."""
    return {member: score for score, member in value_at(entries, key)}


def _pairs_of(scores):
    """The ascending tuple of the pairs (score, member) of a dict."""
    return tuple(sorted([(score, member) for member, score in scores.items()]))


def _without(entries, key, gone):
    """The changes by which a key loses some of its pairs."""
    return renewed(entries, key, "sorted", tuple([pair for pair in value_at(entries, key) if pair not in gone]))


def _listed(pairs, with_scores):
    """The list of the members of some pairs, perhaps each with its score behind it."""
    if not with_scores:
        return texts_reply(tuple([member for _, member in pairs]))
    rows = [(text_reply(member), number_reply(score)) for score, member in pairs]
    return list_reply(tuple([reply for row in rows for reply in row]))


def _does_give(options, known, score):
    """Whether `zadd` gives a score to a member that has a known one, or None if it is not there."""
    if known is None:
        return "old" not in options
    if "new" in options or "up" in options and score <= known:
        return False
    return "down" not in options or score < known


def _zadd(command, entries):
    key = command[1]
    options = options_of(command)
    scores = _scores_at(entries, key)
    many = len(scores)
    changed = 0
    for at in range(2 + len(options), len(command), 2):
        score, member = number_of(command[at]), command[at + 1]
        known = scores.get(member)
        if _does_give(options, known, score):
            scores[member] = score
            changed += 0 if known == score else 1
    reply = number_reply(changed if "changed" in options else len(scores) - many)
    return reply, renewed(entries, key, "sorted", _pairs_of(scores))


def _zraise(command, entries):
    _, key, more, member = command
    scores = _scores_at(entries, key)
    total = scores.get(member, 0) + number_of(more)
    if not is_whole(total):
        return refused("range")
    scores[member] = total
    return number_reply(total), renewed(entries, key, "sorted", _pairs_of(scores))


def _zrem(command, entries):
    key = command[1]
    gone = tuple([pair for pair in value_at(entries, key) if pair[1] in command[2:]])
    return number_reply(len(gone)), _without(entries, key, gone)


def _zscore(command, entries):
    scores = _scores_at(entries, command[1])
    replies = [number_reply(scores[member]) if member in scores else NONE for member in command[2:]]
    return list_reply(tuple(replies)), {}


def _zsize(command, entries):
    return number_reply(len(value_at(entries, command[1]))), {}


def _zbetween(command, entries):
    _, key, low, high = command
    return number_reply(len(_between(value_at(entries, key), low, high, ("byscore",)))), {}


def _between(pairs, low, high, options):
    """Those of some pairs that lie in a range of scores or of texts."""
    if "byscore" in options:
        first, last = score_bound(low), score_bound(high)
        return tuple([pair for pair in pairs if is_between(pair[0], first, last)])
    first, last = text_bound(low), text_bound(high)
    return tuple([pair for pair in pairs if is_between(pair[1], first, last)])


def _ranged(command, entries):
    """The pairs that `zrange` tells, and that `zdrop` takes out."""
    _, key, low, high = command[:4]
    options = options_of(command)
    pairs = value_at(entries, key)
    if "back" in options:
        pairs = pairs[::-1]
    if "byscore" not in options and "bytext" not in options:
        start, end = clipped(number_of(low), number_of(high), len(pairs))
        return pairs[start:end]
    pairs = _between(pairs, low, high, options)
    if "skip" in options:
        return pairs[options["skip"]:][:options["most"]]
    return pairs


def _zrank(command, entries):
    members = [member for _, member in value_at(entries, command[1])]
    if "back" in options_of(command):
        members = members[::-1]
    return number_reply(members.index(command[2])) if command[2] in members else NONE, {}


def _zrange(command, entries):
    return _listed(_ranged(command, entries), "scores" in options_of(command)), {}


def _zdrop(command, entries):
    gone = _ranged(command, entries)
    return number_reply(len(gone)), _without(entries, command[1], gone)


def _zpop(command, entries):
    key, end = command[1:3]
    pairs = value_at(entries, key)
    if end == "greatest":
        pairs = pairs[::-1]
    gone = pairs[:number_of(command[3]) if len(command) > 3 else 1]
    return _listed(gone, True), _without(entries, key, gone)


def _weighed(entries, key, weight):
    """The dict from the members of a key to their weighed scores. A member of a set has the score 1."""
    if key in entries and entries[key][0] == "set":
        return {member: weight for member in value_at(entries, key)}
    return {member: score * weight for score, member in value_at(entries, key)}


def _joined_score(options, scores):
    """The score of a member that has some scores."""
    if "least" in options:
        return min(scores)
    return max(scores) if "greatest" in options else sum(scores)


def _join_to(command, entries):
    options = options_of(command)
    key, *keys = keys_of(command)
    weights = options.get("weights", (1,) * len(keys))
    scores = {}
    for one, weight in zip(keys, weights):
        for member, score in _weighed(entries, one, weight).items():
            scores[member] = (*scores.get(member, ()), score)
    least = len(keys) if command[0] == "zinterto" else 1
    made = {member: _joined_score(options, scores[member]) for member in scores if len(scores[member]) >= least}
    if not all([is_whole(score) for score in made.values()]):
        return refused("range")
    return number_reply(len(made)), replaced(key, "sorted", _pairs_of(made))


_ACTIONS = {
    "zadd": _zadd, "zbetween": _zbetween, "zdrop": _zdrop, "zinterto": _join_to, "zpop": _zpop,
    "zraise": _zraise, "zrange": _zrange, "zrank": _zrank, "zrem": _zrem, "zscore": _zscore,
    "zsize": _zsize, "zunionto": _join_to,
}
