"""Letters of commands and replies: strings in which each text is told by its length."""

from deedline.base.replies import CODES, DONE, NONE, is_reply
from deedline.base.words import check_command, is_text, number_of
from deedline.errors import BadLetters, InvalidOperation
from deedline.shape.kept import Kept

MAX_MEMBERS = 1000
MAX_DEEP = 4
MAX_PIECE = 4000
_KINDS = ("commands", "replies")
_DIGITS = ("0", "1", "2", "3", "4", "5", "6", "7", "8", "9")
# The least and the greatest count behind a letter: of the signs of a text, the texts of a
# command, and the members of a list.
_COUNTS = {"t": (0, 200), "c": (1, 64), "l": (0, 1000)}
_REPLY_LETTERS = ("t", "n", "l", "k", "z", "e")
# What is read behind the letters of a reply that have no count.
_STATES = {"n": "number", "e": "code", "k": "end", "z": "end"}


def write_command(command):
    """The letters of a command."""
    check_command(command)
    return _written("c", [_text_letters(text) for text in command])


def write_reply(reply):
    """The letters of a reply."""
    if not is_reply(reply):
        raise InvalidOperation("no reply")
    return _reply_letters(reply)


def read_command(letters):
    """The command with just these letters."""
    return _only_one("commands", letters)


def read_reply(letters):
    """The reply with just these letters."""
    return _only_one("replies", letters)


def _written(letter, members):
    """The letters of a command or a list whose members have these letters."""
    joined = "".join(members)
    return f"{letter}{len(members)}:{joined};"


def _text_letters(text):
    return f"t{len(text)}:{text};"


def _reply_letters(reply):
    if reply == DONE:
        return "k;"
    if reply == NONE:
        return "z;"
    word, told = reply
    if word == "text":
        return _text_letters(told)
    if word == "number":
        return f"n{told};"
    if word == "error":
        return f"e{told};"
    return _written("l", [_reply_letters(member) for member in told])


def _only_one(kind, letters):
    """The command or reply with just these letters."""
    if not isinstance(letters, str):
        raise InvalidOperation("no string")
    machine = Machine(kind)
    for at, sign in enumerate(letters):
        if machine.found or not machine.take(sign):
            raise BadLetters(at)
    if not machine.found:
        raise BadLetters(len(letters))
    return machine.found[0]


class Frame:
    """A command or a list that is not whole: its letter, how many members it shall have, and those it has."""

    def __init__(self, letter, many):
        self.letter = letter
        self.many = many
        self.things = []


class Machine:
    """Reads letters sign by sign. What was made whole is found in `found`."""

    def __init__(self, kind):
        self.found = []
        self._kind = kind
        # The commands and lists that are not whole, the innermost one last.
        self._frames = []
        # What is read: "start" of something, a "count", the signs of a "text", a "number",
        # a "code", or the "end" of something; its letter, how many signs a text shall have, and
        # the signs that were told so far.
        self._state = "start"
        self._letter = ""
        self._many = 0
        self._told = ""

    def take(self, sign):
        """Reads a sign and returns whether it is good. A bad one changes nothing."""
        if self._state == "start":
            return self._take_letter(sign)
        if self._state == "count":
            return self._take_count(sign)
        if self._state == "text":
            return self._take_text(sign)
        if self._state == "number":
            return self._take_number(sign)
        if self._state == "code":
            return self._take_code(sign)
        return self._take_end(sign)

    def _take_letter(self, sign):
        """Reads the letter with which something begins."""
        if sign not in self._letters():
            return False
        self._state = _STATES.get(sign, "count")
        self._letter = sign
        self._told = ""
        return True

    def _letters(self):
        """With which letters something can begin here."""
        if self._kind == "commands":
            return ("t",) if self._frames else ("c",)
        if len(self._frames) == MAX_DEEP:
            return tuple([letter for letter in _REPLY_LETTERS if letter != "l"])
        return _REPLY_LETTERS

    def _take_count(self, sign):
        """Reads a sign of a count, or the one behind it."""
        if sign == ":" and self._told:
            self._begin(int(self._told))
            return True
        least, most = _COUNTS[self._letter]
        if sign not in _DIGITS or self._told == "0" or not least <= int(self._told + sign) <= most:
            return False
        self._told += sign
        return True

    def _begin(self, many):
        """Begins with the signs of a text, or the members of a command or a list."""
        if self._letter == "t":
            self._state = "text"
            self._many = many
            self._told = ""
        else:
            self._frames.append(Frame(self._letter, many))
            self._go_on()

    def _take_text(self, sign):
        """Reads a sign of a text, or the one behind it."""
        if len(self._told) == self._many:
            return self._close(sign, self._told if self._kind == "commands" else ("text", self._told))
        if not is_text(sign):
            return False
        self._told += sign
        return True

    def _take_number(self, sign):
        """Reads a sign of a number, or the one behind it."""
        if sign == "-" and self._told == "":
            self._told = sign
            return True
        if sign in _DIGITS and number_of(self._told + sign) is not None:
            self._told += sign
            return True
        number = number_of(self._told)
        return number is not None and self._close(sign, ("number", number))

    def _take_code(self, sign):
        """Reads a sign of the code of an error, or the one behind it."""
        if self._told in CODES and sign == ";":
            return self._close(sign, ("error", self._told))
        if not any([code.startswith(self._told + sign) for code in CODES]):
            return False
        self._told += sign
        return True

    def _take_end(self, sign):
        """Reads the sign behind done, none, or the members of a command or a list."""
        if self._letter == "k":
            return self._close(sign, DONE)
        if self._letter == "z":
            return self._close(sign, NONE)
        if sign != ";":
            return False
        members = tuple(self._frames.pop().things)
        return self._close(sign, members if self._kind == "commands" else ("list", members))

    def _close(self, sign, thing):
        """Reads the sign that makes something whole."""
        if sign != ";":
            return False
        if self._frames:
            self._frames[-1].things.append(thing)
            self._go_on()
        else:
            self.found.append(thing)
            self._state = "start"
        return True

    def _go_on(self):
        """Goes on with the next member of the innermost frame, or with its end."""
        frame = self._frames[-1]
        self._state = "start" if len(frame.things) < frame.many else "end"
        self._letter = frame.letter


class Reader(Kept):
    """Reads the letters of commands, or of replies, that come in pieces."""

    def __init__(self, kind):
        if kind not in _KINDS:
            raise InvalidOperation("neither commands nor replies")
        self._kind = kind
        self._machine = Machine(kind)
        self._total = 0
        self._pending = ""
        self._bad = None
        self._made = 0

    @property
    def kind(self):
        """The word "commands" or "replies"."""
        return self._kind

    @property
    def total(self):
        """How many signs were read."""
        return self._total

    @property
    def pending(self):
        """The signs behind the last whole command or reply."""
        return self._pending

    @property
    def bad(self):
        """The index of the bad sign, or None."""
        return self._bad

    def made(self):
        """How many commands or replies were made whole."""
        return self._made

    def feed(self, piece):
        """Takes a piece of letters, and returns the tuple of what it makes whole."""
        if not isinstance(piece, str) or len(piece) > MAX_PIECE:
            raise InvalidOperation("no string, or one that is too long")
        if self._bad is not None:
            return ()
        # How many signs are good, and how many of them stand up to the last whole one.
        good = whole = 0
        for sign in piece:
            many = len(self._machine.found)
            if not self._machine.take(sign):
                self._bad = self._total + good
                break
            good += 1
            if len(self._machine.found) > many:
                whole = good
                self._pending = ""
        self._total += good
        self._pending += piece[whole:good]
        return self._told_things()

    def twin(self):
        """An independent equal reader."""
        other = Reader(self._kind)
        for sign in self._pending:
            other._machine.take(sign)
        other._total = self._total
        other._pending = self._pending
        other._bad = self._bad
        other._made = self._made
        return other

    def __eq__(self, other):
        # What the machine has read hangs on what is pending.
        return (
            isinstance(other, Reader) and self._kind == other._kind and self._pending == other._pending
            and self._total == other._total and self._bad == other._bad and self._made == other._made
        )

    def _told_things(self):
        """The tuple of what was found and not told yet."""
        things = tuple(self._machine.found)
        self._machine.found = []
        self._made += len(things)
        return things
