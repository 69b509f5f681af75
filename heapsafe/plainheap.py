"""The plain heap: it does deeds and is told events, and nothing is ever freed in it."""

from heapsafe.deeds import DeedHeap, refuse
from heapsafe.things import NOTHING, pair, weak


class PlainHeap(DeedHeap):
    def __init__(self):
        DeedHeap.__init__(self)
        self.made = {}

    def do(self, deed):
        refused = self.refusal(deed)
        if refused is not None:
            refuse(refused)
        return self.done(deed)

    def thing_of(self, name):
        return self.made[name]

    def take_in(self, thing):
        serial = self.last() + 1
        self.made[serial] = thing
        return serial

    def change_field(self, name, at, value):
        self.made[name] = self.made[name].with_field(at, value)

    def change_words(self, name, words):
        self.made[name] = self.made[name].with_words(words)

    def clear(self, serial):
        self.made[serial] = weak(NOTHING)

    def drop_pair(self, serial):
        self.made[serial] = pair(NOTHING, NOTHING)

    def make_due(self, serial):
        self.heard.append((serial, self.made[serial].words()))
        self.change_words(serial, None)

    def roots(self):
        return dict([(letter, value) for letter, value in self.root_values.items() if value != NOTHING])

    def heard_row(self):
        return list(self.heard)

    def things(self):
        told = {}
        for serial, thing in self.made.items():
            told[serial] = (thing.sort_of(), thing.fields(), thing.words())
        return told

    def last(self):
        return len(self.made)
