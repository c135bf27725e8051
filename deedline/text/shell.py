"""A shell: lines of words that are done at a store."""

from deedline.base.words import MAX_WORDS, is_printed, is_time, is_within, number_of
from deedline.client.blocks import Session
from deedline.errors import InvalidText, InvalidTime, ParseError
from deedline.store.core import check_is_store
from deedline.store.room import MAX_BUDGET
from deedline.text.lines import show, words_of


class Shell:
    """Does lines at a store, at its own time."""

    def __init__(self, store):
        check_is_store(store)
        self._store = store
        self._session = Session(store)
        self._now = store.now
        self._count = 0

    @property
    def now(self):
        """The time at which lines are done."""
        return self._now

    def tell(self, line):
        """Does a line, and returns the answer."""
        if not is_printed(line):
            raise InvalidText(line)
        self._count += 1
        try:
            words = words_of(line)
        except InvalidText:
            return "error InvalidText"
        except ParseError:
            return "error ParseError"
        return self._answer(words) if words else ""

    def __len__(self):
        return len(range(self._count))

    def __call__(self, line):
        return self.tell(line)

    def _answer(self, words):
        """The answer to a line with these words."""
        if len(words) > MAX_WORDS:
            return "error InvalidCommand"
        if words[0] == "time":
            return self._move(words[1:])
        try:
            if words[0] == "sweep":
                return self._sweep(words[1:])
            return show(self._session.call(words, self._now))
        except InvalidTime:
            return "error InvalidTime"

    def _move(self, texts):
        """Makes another time that of the shell."""
        time = _only_number(texts)
        if not is_time(time):
            return "error InvalidNumber"
        if time < self._store.now:
            return "error InvalidTime"
        self._now = time
        return "done"

    def _sweep(self, texts):
        """Sweeps with a budget."""
        budget = _only_number(texts)
        if not is_within(budget, 0, MAX_BUDGET):
            return "error InvalidNumber"
        return str(self._store.sweep(self._now, budget))


def _only_number(texts):
    """The whole number whose text is the only one of some texts, or None."""
    return number_of(texts[0]) if len(texts) == 1 else None
