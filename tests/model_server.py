"""A plain model of the server, written along [25.1] to [25.5]."""

from deedline.base.letters import Reader
from deedline.client.blocks import Session
from tests.model_waits import WAITING, PlainWaits
from tests.plain import DONE, error, number, texts
from tests.test_events import PlainListeners, plain_events

LISTENING = {"listen": ("want", 0), "match": ("want", 1), "events": ("want", 2), "unlisten": ("end", 0), "unmatch": ("end", 1), "unevents": ("end", 2)}
BAD = "bad"


class PlainServer:
    def __init__(self, store):
        self.store, self.waits, self.listeners = store, PlainWaits(store), PlainListeners()
        self.readers, self.sessions, self.holds = {}, {}, {}
        self.told, self.served = [], 0

    def join(self, name):
        self.readers[name], self.sessions[name], self.holds[name] = Reader("commands"), Session(self.store), []

    def leave(self, name):
        for kept in (self.readers, self.sessions, self.holds, self.listeners.wanted, self.listeners.kept):
            kept.pop(name, None)
        self.waits.row = [one for one in self.waits.row if one[0] != name]

    def does_wait(self, name):
        return name in self.waits.names()

    def begin(self, now):
        """What each call begins with."""
        self.told = []
        ended = self.waits.end(now)
        self.told += ended
        self.row_goes([name for name, _ in ended], now)

    def tick(self, now):
        self.begin(now)
        return tuple(self.told)

    def feed(self, name, piece, now):
        self.begin(now)
        if name in self.readers:
            reader = self.readers[name]
            elder = reader.bad
            things = list(reader.feed(piece)) + ([BAD] if reader.bad is not None and elder is None else [])
            for thing in things:
                if name in self.readers:
                    self.holds[name].append(thing)
                    if not self.does_wait(name):
                        self.row_goes([name], now)
        return tuple(self.told)

    def row_goes(self, row, now):
        """The clients of a row do what they hold; who is served goes to its end."""
        for name in row:
            while name in self.holds and self.holds[name] and not self.does_wait(name):
                thing = self.holds[name].pop(0)
                reply, units, is_closed = self.does(name, thing, now)
                if reply is None:
                    break
                self.told.append((name, reply))
                if is_closed:
                    self.leave(name)
                self.messages(units)
                row += self.serving(now)

    def serving(self, now):
        names = []
        while True:
            before, place = self.store.kept(), self.store.place
            pair = self.waits.serve_next(now)
            if pair is None:
                return names
            self.served += 1
            names.append(pair[0])
            self.told.append(pair)
            self.messages([(before, unit) for unit in self.store.units_from(place)])

    def messages(self, units):
        for before, unit in units:
            self.listeners.tell(plain_events(before, unit)[0])
        for name in sorted(self.listeners.kept):
            self.told += [(name, texts(*message)) for message in self.listeners.kept.pop(name)]

    def does(self, name, thing, now):
        """The reply or None, the units that came with the entries ahead of them, and whether the client is closed."""
        before, place = self.store.kept(), self.store.place
        if thing == BAD:
            return error("syntax"), [], True
        word, *told = thing
        is_open = self.sessions[name].queued is not None
        if word == "close":
            return (DONE, [], True) if not told else (error("words"), [], False)
        if is_open or word not in (*WAITING, *LISTENING, "publish", "ping"):
            reply = self.sessions[name].call(thing, now)
        elif word in WAITING:
            reply = self.waits.ask(name, thing, now)
        elif word == "ping":
            reply = error("words") if told else DONE
        elif word == "publish":
            reply = number(self.listeners.publish(*told)) if len(told) == 2 else error("words")
        else:
            what, sort = LISTENING[word]
            reply = error("words")
            if told or what == "end":
                elder = set(self.listeners.wanted[name][sort])
                reply = number(getattr(self.listeners, what)(name, sort, told))
                if reply[1] > 100:
                    self.listeners.wanted[name][sort].intersection_update(elder)
                    reply = error("size")
        return reply, [(before, unit) for unit in self.store.units_from(place)], False
