"""Right commands of all words, that look like chance."""

from tests import rows
from tests.helpers import LEAST, MOST

FIRST_LETTERS = {"list": "l", "map": "m", "set": "s", "sorted": "z", "text": "t"}
WORDS_OF_KINDS = {
    "text": "add append get getall grab length part set setall",
    "list": "at drop insert len move popl popr pushl pushlold pushr pushrold range setat trim",
    "set": "sadd scount sdiff sdiffto shas sinter sinterto smembers smove spop srem sunion sunionto",
    "map": "hadd hcount hdel hfields hget hhas hmany hpairs hset htexts",
    "sorted": "zadd zbetween zdrop zinterto zpop zraise zrange zrank zrem zscore zsize zunionto",
    "keys": "clear copy del exists expire expireat keys kind left persist rename renamenew scan size",
}
KIND_OF = {word: kind for kind, words in WORDS_OF_KINDS.items() for word in words.split()}
TEXTS = ("", "a", "b", "c", "x", "y", "7", "-3", "0", "10", "007", "aa", "f", str(LEAST), str(MOST), "w" * 90, "v" * 150)
NUMBERS = (-3, -2, -1, 0, 0, 1, 1, 2, 3, 5, 9, LEAST, MOST, MOST - 9)
KNOWN = {word: list(rows.rows(word, 4)) for word in rows.ROWS if word not in ("zunionto", "zinterto")}


class Maker:
    """Makes right commands whose keys are mostly of the kinds that their words take."""

    def __init__(self, pick, keys=3, astray=0.04):
        self.pick, self.keys, self.astray = pick, keys, astray

    def key(self, kind):
        if kind == "keys" or self.pick.random() < self.astray:
            kind = self.pick.choice(sorted(FIRST_LETTERS))
        return FIRST_LETTERS[kind] + str(self.pick.randrange(self.keys))

    def number(self, least, most):
        told = self.pick.choice(NUMBERS)
        return str(min(max(told, least), most))

    def text(self, word, slot):
        """A text that can stand at a slot of a row."""
        if slot == "K":
            kind = KIND_OF[word]
            return self.key("set" if word in ("zunionto", "zinterto") and self.pick.random() < 0.3 else kind)
        if slot in rows.SPANS:
            return self.number(*rows.SPANS[slot])
        if slot == "B":
            return self.bound()
        if slot == "W":
            return self.pick.choice(rows.KINDS)
        return self.pick.choice(TEXTS) if slot == "T" else slot

    def bound(self):
        return self.pick.choice(("-", "+", self.number(-5, 5), "(" + self.number(-5, 5), self.number(LEAST, MOST)))

    def command(self, word):
        """A right command with a word."""
        if word in ("zunionto", "zinterto"):
            keys = self.pick.randrange(1, 4)
            row = self.pick.choice(list(rows.rows(word, 1, keys)))
        else:
            keys, row = 0, self.pick.choice(KNOWN[word])
        texts = [str(keys) if slot == "H" else self.text(word, slot) for slot in row]
        if word in ("zrange", "zdrop"):
            for at in (1, 2):
                if "byscore" in row:
                    texts[at] = self.bound()
                elif "bytext" in row:
                    texts[at] = self.pick.choice(("-", "+", "[" + self.pick.choice(TEXTS), "(" + self.pick.choice(TEXTS)))
                else:
                    texts[at] = self.number(LEAST, MOST)
        return (word, *texts)
