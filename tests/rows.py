"""The table of words, as the document has it, and all rows that a command can have by it.

A row is a tuple of slots: "K", "T", "N" and other letters for what can stand there, or a told word.
"""

import itertools

from tests.helpers import LEAST, MOST

TABLE = {
    "get length len grab! smembers scount zsize hcount hfields htexts hpairs kind left persist!": "K",
    "set!": "K T [new|old] [keep|for Z|until A] [was]",
    "append!": "K T",
    "part range trim!": "K N N",
    "add! at": "K N",
    "getall sinter sunion sdiff del! exists": "(K)",
    "setall!": "(K T)",
    "pushl! pushr! pushlold! pushrold!": "K (T)",
    "popl! popr! spop!": "K [C]",
    "setat! drop!": "K N T",
    "insert!": "K before|after T T",
    "move!": "K K left|right left|right",
    "sadd! srem! shas zrem! zscore": "K (T)",
    "smove!": "K K T",
    "sinterto! sunionto! sdiffto!": "K (K)",
    "zadd!": "K [new|old] [up|down] [changed] (N T)",
    "zraise!": "K N T",
    "zbetween": "K B B",
    "zrank": "K T [back]",
    "zrange": "K T T [byscore|bytext] [back] [skip C most C] [scores]",
    "zdrop!": "K T T [byscore|bytext]",
    "zpop!": "K least|greatest [C]",
    "zunionto! zinterto!": "K H",
    "hset!": "K (T T)",
    "hget hhas": "K T",
    "hmany hdel!": "K (T)",
    "hadd!": "K T N",
    "rename! renamenew!": "K K",
    "copy!": "K K [over]",
    "expire!": "K N [new|old|later|sooner]",
    "expireat!": "K A [new|old|later|sooner]",
    "keys": "T",
    "size clear!": "",
    "scan": "O [match T] [count R] [kind W]",
}
SPANS = {"N": (LEAST, MOST), "C": (0, MOST), "A": (0, 10 ** 15), "Z": (1, 10 ** 15), "O": (0, 65535),
         "R": (1, 1000), "H": (1, 60)}
KINDS = ("list", "map", "set", "sorted", "text")
ROWS = {word.strip("!"): row for words, row in TABLE.items() for word in words.split()}
WRITING = {word.strip("!") for words in TABLE for word in words.split() if word.endswith("!")}
# How many texts a command can have, with its word; more than 64 it never has.
COUNTS = {"": (1, 1), "K": (2, 2), "T": (2, 2), "K T": (3, 3), "K N": (3, 3), "K K": (3, 3), "K N N": (4, 4),
          "K N T": (4, 4), "K K T": (4, 4), "K T N": (4, 4), "K B B": (4, 4), "K before|after T T": (5, 5),
          "K K left|right left|right": (5, 5), "K [C]": (2, 3), "K least|greatest [C]": (3, 4),
          "K T [back]": (3, 4), "K K [over]": (3, 4), "K N [new|old|later|sooner]": (3, 4),
          "K A [new|old|later|sooner]": (3, 4), "K T T [byscore|bytext]": (4, 5),
          "O [match T] [count R] [kind W]": (2, 8), "K T [new|old] [keep|for Z|until A] [was]": (3, 7),
          "K T T [byscore|bytext] [back] [skip C most C] [scores]": (4, 11), "(K)": (2, 64), "(K T)": (3, 63),
          "K (T)": (3, 64), "K (K)": (3, 64), "K (T T)": (4, 64), "K H": (4, 64),
          "K [new|old] [up|down] [changed] (N T)": (4, 64)}


def number(text):
    """The whole number with a text, or None."""
    digits = text[1:] if text.startswith("-") else text
    is_number = digits != "" and all(sign in "0123456789" for sign in digits) and text == "%d" % int(text)
    return int(text) if is_number and LEAST <= int(text) <= MOST else None


def is_bound(text):
    return text in ("-", "+") or number(text[1:] if text.startswith("(") else text) is not None


def does_stand(slot, text):
    """Whether a text can stand at a slot."""
    if slot == "K":
        return 1 <= len(text) <= 40
    if slot in SPANS:
        return number(text) is not None and SPANS[slot][0] <= number(text) <= SPANS[slot][1]
    if slot == "B":
        return is_bound(text)
    return slot == "T" or text == slot or slot == "W" and text in KINDS


def parts(row):
    """What stands first, the groups of options, and what is repeated."""
    first, groups, repeated = [], [], ()
    for piece in row.replace("(", " (").split(" ") if "[" not in row and "(" not in row else split(row):
        if piece.startswith("["):
            groups.append([tuple(option.split(" ")) for option in piece[1:-1].split("|")])
        elif piece.startswith("("):
            repeated = tuple(piece[1:-1].split(" "))
        elif piece:
            first.append(piece.split("|"))
    return first, groups, repeated


def split(row):
    """The pieces of a row, those in brackets whole."""
    pieces, depth = [""], 0
    for sign in row:
        depth += (sign in "[(") - (sign in "])")
        if sign == " " and not depth:
            pieces.append("")
        else:
            pieces[-1] += sign
    return pieces


def orders(groups):
    """All rows of options: one of each of some groups, in every order."""
    for many in range(len(groups) + 1):
        for chosen in itertools.permutations(groups, many):
            for options in itertools.product(*chosen):
                yield sum(options, ())


def heads(first):
    """All rows of what stands first, each told word once."""
    return [tuple(row) for row in itertools.product(*first)]


def rows(word, many, keys=1):
    """All rows of a word; what is repeated stands there up to `many` times, `keys` is how many keys follow."""
    first, groups, repeated = parts(ROWS[word])
    for head in heads(first):
        if word in ("zunionto", "zinterto"):
            options = [[("weights",) + ("N",) * keys], [("sum",), ("least",), ("greatest",)]]
            for told in orders(options):
                yield head + ("K",) * keys + told
        else:
            for told in orders(groups):
                if repeated:
                    if not ("new" in told and ("up" in told or "down" in told)):
                        yield from (head + told + repeated * times for times in range(1, many + 1))
                elif not ("skip" in told and "byscore" not in told and "bytext" not in told):
                    yield head + told


def told_error(slots, text):
    """The error of a text that can stand at none of some slots."""
    if "K" in slots:
        return "size" if text else "syntax"
    if "B" in slots:
        return "number"
    if any(slot in SPANS for slot in slots):
        return "number" if number(text) is None else "range"
    return "syntax"


def first_error(command):
    """The first error of a command by its rows: no text can stand where none of them has it."""
    word, *texts = command
    if word not in ROWS:
        return "unknown"
    least, most = COUNTS[ROWS[word]]
    if not least <= len(command) <= most or ROWS[word] in ("(K T)", "K (T T)") and len(command) % 2 != least % 2:
        return "words"
    keys = number(texts[1]) if ROWS[word] == "K H" and does_stand("H", texts[1]) else 1
    here = list(rows(word, len(texts) + 1, keys))
    if word == "zrange":
        # Behind all options it is told that `skip` stands alone.
        here += [("K", "T", "T") + told for told in orders(parts(ROWS[word])[1]) if "skip" in told]
    for at, text in enumerate(texts):
        here = [row for row in here if len(row) > at]
        standing = [row for row in here if does_stand(row[at], text)]
        if not standing:
            is_option = {text, *texts[1:at]} <= {"new", "old", "up", "down", "changed"}
            if word == "zadd" and at > 0 and (is_option or at == len(texts) - 1):
                return "syntax"
            return told_error({row[at] for row in here}, text)
        here = standing
    if all(len(row) != len(texts) for row in here):
        return "syntax"
    return bounds_error(word, texts)


def bounds_error(word, texts):
    """The error of the bounds of a range."""
    if word not in ("zrange", "zdrop"):
        return None
    options = texts[3:]
    if "skip" in options and "byscore" not in options and "bytext" not in options:
        return "syntax"
    for text in texts[1:3]:
        if "bytext" in options:
            if text not in ("-", "+") and not text.startswith(("[", "(")):
                return "syntax"
        elif not (is_bound(text) if "byscore" in options else number(text) is not None):
            return "number"
    return None
