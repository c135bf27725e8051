"""Reading the texts of a command from the left, up to the first that cannot stand where it stands."""

from deedline.base.words import MAX_KEY, number_of
from deedline.shape.entries import KINDS

# The least and the greatest number for each letter that stands for one.
_SPANS = {
    "N": (-(2 ** 63), 2 ** 63 - 1),
    "C": (0, 2 ** 63 - 1),
    "A": (0, 10 ** 15),
    "Z": (1, 10 ** 15),
    "O": (0, 65535),
    "R": (1, 1000),
    "H": (1, 60),
}
# The told words for each letter that stands for one of them.
_CHOICES = {"L": ("left", "right"), "I": ("before", "after"), "E": ("least", "greatest")}
# The letter of what an option takes.
_TAKES = {"for": "Z", "until": "A", "skip": "C", "match": "T", "count": "R", "kind": "W"}


class Wrong(Exception):
    """A text of a command cannot stand where it stands, or one lacks."""

    def __init__(self, code):
        self.code = code


class Reading:
    """A command that is read. Each method raises Wrong if what it reads cannot stand there.

    The letters of what can stand in a row: K is a key, T any text, N any whole number, C one of
    at least 0, A a time, Z a span of time, O a cursor, R a count of a scan, H how many keys follow,
    L and I and E one of two told words, W a kind, and B a bound of scores.
    """

    def __init__(self, command):
        self._command = command
        self._at = 1
        # The keys that were read, and the options with what they take.
        self.named = []
        self.options = {}

    def rest(self):
        """How many texts are not read yet."""
        return len(self._command) - self._at

    def ahead(self):
        """The text that is read next, or None."""
        return self._command[self._at] if self.rest() else None

    def piece(self, letter):
        """Reads what a letter stands for, and returns the text, or its number."""
        text = self._text()
        if letter == "K":
            return self._key(text)
        if letter in _SPANS:
            least, most = _SPANS[letter]
            return _number(text, least, most)
        if letter in _CHOICES:
            return _choice(text, _CHOICES[letter])
        if letter == "W":
            return _choice(text, KINDS)
        if letter == "B":
            check_score_bound(text)
        return text

    def option(self, groups):
        """Reads an option with what it takes. Those of a group exclude one another."""
        word = self._text()
        group = [other for others in groups if word in others for other in others]
        if not group or any([other in self.options for other in group]):
            raise Wrong("syntax")
        self.options[word] = self._taken(word)

    def _text(self):
        """The next text."""
        text = self.ahead()
        if text is None:
            raise Wrong("syntax")
        self._at += 1
        return text

    def _key(self, key):
        if key == "":
            raise Wrong("syntax")
        if len(key) > MAX_KEY:
            raise Wrong("size")
        self.named.append(key)
        return key

    def _taken(self, word):
        """What an option takes."""
        if word == "weights":
            # The first key that was read is the one that gets the result: it has no weight.
            return tuple([self.piece("N") for _ in range(len(self.named) - 1)])
        if word not in _TAKES:
            return True
        taken = self.piece(_TAKES[word])
        if word == "skip":
            _choice(self._text(), ("most",))
            self.options["most"] = self.piece("C")
        return taken


def _number(text, least, most):
    """The number of a text, from `least` to `most`."""
    number = number_of(text)
    if number is None:
        raise Wrong("number")
    if not least <= number <= most:
        raise Wrong("range")
    return number


def _choice(text, words):
    """The text, one of the told words."""
    if text not in words:
        raise Wrong("syntax")
    return text


def check_place(text):
    """Raises Wrong if a text is none of a whole number."""
    if number_of(text) is None:
        raise Wrong("number")


def check_score_bound(text):
    """Raises Wrong if a text is no bound of scores."""
    if text not in ("-", "+"):
        check_place(text.removeprefix("("))


def check_text_bound(text):
    """Raises Wrong if a text is no bound of texts."""
    if text not in ("-", "+") and text[:1] not in ("[", "("):
        raise Wrong("syntax")
