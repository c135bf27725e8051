"""The words of commands, and what can follow them."""

from deedline.base.words import check_command, number_of
from deedline.errors import InvalidCommand
from deedline.plain.reading import Reading, Wrong, check_place, check_score_bound, check_text_bound

WORDS = (
    "add", "append", "at", "clear", "copy", "del", "drop", "exists", "expire", "expireat", "get", "getall",
    "grab", "hadd", "hcount", "hdel", "hfields", "hget", "hhas", "hmany", "hpairs", "hset", "htexts",
    "insert", "keys", "kind", "left", "len", "length", "move", "part", "persist", "popl", "popr", "pushl",
    "pushlold", "pushr", "pushrold", "range", "rename", "renamenew", "sadd", "scan", "scount", "sdiff",
    "sdiffto", "set", "setall", "setat", "shas", "sinter", "sinterto", "size", "smembers", "smove", "spop",
    "srem", "sunion", "sunionto", "trim", "zadd", "zbetween", "zdrop", "zinterto", "zpop", "zraise",
    "zrange", "zrank", "zrem", "zscore", "zsize", "zunionto",
)
_WRITING = (
    "add", "append", "clear", "copy", "del", "drop", "expire", "expireat", "grab", "hadd", "hdel", "hset",
    "insert", "move", "persist", "popl", "popr", "pushl", "pushlold", "pushr", "pushrold", "rename",
    "renamenew", "sadd", "sdiffto", "set", "setall", "setat", "sinterto", "smove", "spop", "srem",
    "sunionto", "trim", "zadd", "zdrop", "zinterto", "zpop", "zraise", "zrem", "zunionto",
)
# What stands first behind a word. `Reading` tells what the letters stand for. The bounds of
# `zrange` and `zdrop` are any texts here: which they can be is told by the options behind them.
_FIRST = {
    "add": "KN", "append": "KT", "at": "KN", "clear": "", "copy": "KK", "del": "", "drop": "KNT", "exists": "",
    "expire": "KN", "expireat": "KA", "get": "K", "getall": "", "grab": "K", "hadd": "KTN", "hcount": "K",
    "hdel": "K", "hfields": "K", "hget": "KT", "hhas": "KT", "hmany": "K", "hpairs": "K", "hset": "K",
    "htexts": "K", "insert": "KITT", "keys": "T", "kind": "K", "left": "K", "len": "K", "length": "K",
    "move": "KKLL", "part": "KNN", "persist": "K", "popl": "K", "popr": "K", "pushl": "K", "pushlold": "K",
    "pushr": "K", "pushrold": "K", "range": "KNN", "rename": "KK", "renamenew": "KK", "sadd": "K",
    "scan": "O", "scount": "K", "sdiff": "", "sdiffto": "K", "set": "KT", "setall": "", "setat": "KNT",
    "shas": "K", "sinter": "", "sinterto": "K", "size": "", "smembers": "K", "smove": "KKT", "spop": "K",
    "srem": "K", "sunion": "", "sunionto": "K", "trim": "KNN", "zadd": "K", "zbetween": "KBB",
    "zdrop": "KTT", "zinterto": "KH", "zpop": "KE", "zraise": "KNT", "zrange": "KTT", "zrank": "KT",
    "zrem": "K", "zscore": "K", "zsize": "K", "zunionto": "KH",
}
# What stands there once or more behind that, and what can stand there once.
_MORE = {
    "del": "K", "exists": "K", "getall": "K", "hdel": "T", "hmany": "T", "hset": "TT", "pushl": "T",
    "pushlold": "T", "pushr": "T", "pushrold": "T", "sadd": "T", "sdiff": "K", "sdiffto": "K", "setall": "KT",
    "shas": "T", "sinter": "K", "sinterto": "K", "srem": "T", "sunion": "K", "sunionto": "K", "zadd": "NT",
    "zinterto": "K", "zrem": "T", "zscore": "T", "zunionto": "K",
}
_PERHAPS = {"popl": "C", "popr": "C", "spop": "C", "zpop": "C"}
# The groups of options, of which each excludes the others of its group.
_OPTIONS = {
    "copy": (("over",),),
    "expire": (("new", "old", "later", "sooner"),),
    "expireat": (("new", "old", "later", "sooner"),),
    "scan": (("match",), ("count",), ("kind",)),
    "set": (("new", "old"), ("keep", "for", "until"), ("was",)),
    "zadd": (("new", "old"), ("up", "down"), ("changed",)),
    "zdrop": (("byscore", "bytext"),),
    "zinterto": (("weights",), ("sum", "least", "greatest")),
    "zrange": (("byscore", "bytext"), ("back",), ("skip",), ("scores",)),
    "zrank": (("back",),),
    "zunionto": (("weights",), ("sum", "least", "greatest")),
}
# How many texts an option has with what it takes, if more than one.
_WIDTHS = {"for": 2, "until": 2, "skip": 4, "match": 2, "count": 2, "kind": 2}


def does_write(command):
    """Whether the word of a command writes."""
    check_command(command)
    return command[0] in _WRITING


def first_error(command):
    """The first error of a command, or None."""
    check_command(command)
    error, _ = _read(command)
    return error


def keys_of(command):
    """The tuple of the keys of a command as they stand, () if it is not right."""
    check_command(command)
    error, reading = _read(command)
    return tuple(reading.named) if error is None else ()


def options_of(command):
    """The dict from the options of a right command to what they take."""
    check_command(command)
    error, reading = _read(command)
    if error is not None:
        raise InvalidCommand("not right")
    return {option: reading.options[option] for option in sorted(reading.options)}


def _read(command):
    """The first error of a command, or None, and what was read."""
    reading = Reading(command)
    word = command[0]
    if word not in _FIRST:
        return "unknown", reading
    if _does_miscount(command):
        return "words", reading
    try:
        for letter in _FIRST[word]:
            reading.piece(letter)
        _read_rest(reading, command)
    except Wrong as wrong:
        return wrong.code, reading
    return None, reading


def _does_miscount(command):
    """Whether there are fewer or more texts than the row of the word can have."""
    word = command[0]
    rest = len(command) - 1 - len(_FIRST[word])
    more = _MORE.get(word, "")
    groups = _OPTIONS.get(word, ())
    if rest < len(more):
        return True
    if more:
        # With options, a text too many is one that cannot stand where it stands.
        return groups == () and rest % len(more) > 0
    widest = [max([_WIDTHS.get(option, 1) for option in group]) for group in groups]
    return rest > len(_PERHAPS.get(word, "")) + sum(widest)


def _read_rest(reading, command):
    """Reads what stands behind what stands first."""
    word = command[0]
    if word == "zadd":
        _read_scored(reading)
    elif word in ("zunionto", "zinterto"):
        for _ in range(number_of(command[2])):
            reading.piece("K")
        _read_options(reading, word)
    elif word in _MORE:
        _read_more(reading, word)
    elif word in _PERHAPS:
        if reading.rest():
            reading.piece(_PERHAPS[word])
    else:
        _read_options(reading, word)
    if word in ("zrange", "zdrop"):
        _check_range(command, reading.options)


def _read_options(reading, word):
    """Reads options up to the end."""
    while reading.rest():
        reading.option(_OPTIONS.get(word, ()))


def _read_more(reading, word):
    """Reads what stands there once or more, up to the end."""
    while reading.rest():
        if reading.rest() < len(_MORE[word]):
            raise Wrong("syntax")
        for letter in _MORE[word]:
            reading.piece(letter)


def _read_scored(reading):
    """Reads what follows the key of `zadd`."""
    groups = _OPTIONS["zadd"]
    while any([reading.ahead() in group for group in groups]):
        reading.option(groups)
    told = reading.options
    if "new" in told and ("up" in told or "down" in told) or not reading.rest():
        raise Wrong("syntax")
    _read_more(reading, "zadd")


def _check_range(command, options):
    """Raises Wrong for the options and the bounds of a range."""
    if "skip" in options and "byscore" not in options and "bytext" not in options:
        raise Wrong("syntax")
    for text in command[2:4]:
        if "byscore" in options:
            check_score_bound(text)
        elif "bytext" in options:
            check_text_bound(text)
        else:
            check_place(text)
