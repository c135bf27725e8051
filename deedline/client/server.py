"""A server: clients send the letters of commands, and are told replies and messages."""

from deedline.base.letters import MAX_PIECE, Reader
from deedline.base.replies import DONE, error_reply, number_reply, texts_reply
from deedline.base.words import check_text
from deedline.client.blocks import Session
from deedline.client.waits import WAIT_WORDS, Waits
from deedline.errors import InvalidOperation, TooMany, UnknownName
from deedline.store.core import check_is_store
from deedline.store.events import Listeners

MAX_CLIENTS = 100
# The words that only a server knows, with the least and the greatest number of texts behind them.
_COUNTS = {
    "close": (0, 0), "events": (1, 63), "listen": (1, 63), "match": (1, 63), "ping": (0, 0), "publish": (2, 2),
    "unevents": (0, 63), "unlisten": (0, 63), "unmatch": (0, 63),
}


class Client:
    """What a server knows of a client."""

    def __init__(self, store):
        self.reader = Reader("commands")
        self.session = Session(store)
        # The commands that are not done yet, perhaps with None behind them: it stands for a bad sign.
        self.todo = []

    def read(self, piece):
        """The list of the commands that a piece makes whole, with None behind them if a bad sign comes."""
        was_good = self.reader.bad is None
        things = list(self.reader.feed(piece))
        if was_good and self.reader.bad is not None:
            things.append(None)
        return things


class Server:
    """Does the commands of clients at a store, and tells each of them what it is to be told."""

    def __init__(self, store):
        check_is_store(store)
        self._store = store
        self._waits = Waits(store)
        self._listeners = Listeners()
        self._clients = {}

    @property
    def store(self):
        """The store."""
        return self._store

    @property
    def names(self):
        """The ascending tuple of the names of all clients."""
        return tuple(sorted(self._clients))

    @property
    def waiting(self):
        """The tuple of the names of the waiting clients, the one that waits longest first."""
        return self._waits.names

    def join(self, name):
        """Adds a client."""
        check_text(name)
        if name in self._clients:
            raise InvalidOperation("this client has joined already")
        if len(self._clients) == MAX_CLIENTS:
            raise TooMany(MAX_CLIENTS)
        self._clients[name] = Client(self._store)

    def leave(self, name):
        """Closes a client."""
        self._check_name(name)
        self._close(name)

    def held(self, name):
        """The tuple of the commands that a client holds."""
        self._check_name(name)
        return tuple([thing for thing in self._clients[name].todo if thing is not None])

    def feed(self, name, piece, now):
        """Takes a piece of letters of a client, and returns the tuple of all that is told in this call."""
        self._check_name(name)
        if not isinstance(piece, str) or len(piece) > MAX_PIECE:
            raise InvalidOperation("no string, or one that is too long")
        client = self._clients[name]
        told = []
        self._end_waits(now, told)
        for thing in client.read(piece):
            client.todo.append(thing)
            self._go_on([name], now, told)
        return tuple(told)

    def tick(self, now):
        """Moves the time, and returns the tuple of all that is told in this call."""
        told = []
        self._end_waits(now, told)
        return tuple(told)

    def _check_name(self, name):
        """Raises an error if it is not the name of a client."""
        check_text(name)
        if name not in self._clients:
            raise UnknownName(name)

    def _close(self, name):
        """Forgets a client."""
        self._waits.cancel(name)
        self._listeners.close(name)
        del self._clients[name]

    def _end_waits(self, now, told):
        """Ends the waits whose time has come, and lets their clients go on."""
        pairs = self._waits.end(now)
        told.extend(pairs)
        self._go_on([name for name, _ in pairs], now, told)

    def _go_on(self, row, now, told):
        """Lets the clients of a row do what they hold, but for those that wait or are closed.

        Who is served meanwhile is put behind them.
        """
        row = list(row)
        while row:
            name = row.pop(0)
            while name in self._clients and self._clients[name].todo and name not in self._waits:
                row.extend(self._do_next(name, now, told))

    def _do_next(self, name, now, told):
        """Does the next command of a client, and returns the names of those who were served behind it."""
        thing = self._clients[name].todo.pop(0)
        before, place = self._store.kept(), self._store.place
        reply = self._reply(name, thing, now)
        if reply is None:
            return []
        told.append((name, reply))
        if thing is None or thing == ("close",):
            self._close(name)
        self._tell_messages(before, place, told)
        return self._serve(now, told)

    def _serve(self, now, told):
        """Serves the waiting, and returns their names."""
        names = []
        while True:
            before, place = self._store.kept(), self._store.place
            pair = self._waits.serve_next(now)
            if pair is None:
                return names
            told.append(pair)
            self._tell_messages(before, place, told)
            names.append(pair[0])

    def _tell_messages(self, before, place, told):
        """Tells the messages that a text that was published made, or a unit at a place, ahead of which was `before`."""
        for unit in self._store.units_from(place):
            self._listeners.tell(before, unit)
        names = self._listeners.names
        for name in names:
            told.extend([(name, texts_reply(message)) for message in self._listeners.taken(name)])

    def _reply(self, name, thing, now):
        """The reply to a command, or to a bad sign. It is None if the client waits now."""
        if thing is None:
            return error_reply("syntax")
        session = self._clients[name].session
        word = thing[0]
        if word in _COUNTS and (session.queued is None or word == "close"):
            return self._own(name, thing)
        if word in WAIT_WORDS and session.queued is None:
            return self._waits.ask(name, thing, now)
        return session.call(thing, now)

    def _own(self, name, command):
        """The reply to a command that only a server knows."""
        word, *texts = command
        least, most = _COUNTS[word]
        if not least <= len(texts) <= most:
            return error_reply("words")
        if word in ("close", "ping"):
            return DONE
        if word == "publish":
            channel, text = texts
            return number_reply(self._listeners.publish(channel, text))
        try:
            return number_reply(self._listen(name, word, texts))
        except InvalidOperation:
            return error_reply("size")

    def _listen(self, name, word, texts):
        """Changes what a client wants, and returns how much that is."""
        if word == "listen":
            return self._listeners.listen(name, *texts)
        if word == "match":
            return self._listeners.match(name, *texts)
        if word == "events":
            return self._listeners.events(name, *texts)
        if word == "unlisten":
            return self._listeners.unlisten(name, *texts)
        if word == "unmatch":
            return self._listeners.unmatch(name, *texts)
        return self._listeners.unevents(name, *texts)
