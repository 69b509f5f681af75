"""Marking: white, grey and black things, and the row of the grey ones."""

from heapsafe.things import names_in


class Marking:
    def __init__(self, memory):
        self.memory = memory
        # A dict keeps the order in which keys came, and has each once.
        self.grey_places = {}

    def shade(self, place):
        if not self.memory.marked_at(place):
            self.memory.set_mark(place, True)
            self.grey_places[place] = True

    def shade_all(self, places):
        for place in places:
            self.shade(place)

    def has_grey(self):
        return len(self.grey_places) > 0

    def step(self):
        place = self.grey()[0]
        self.grey_places.pop(place)
        self.shade_all(self.memory.thing_at(place).holds())
        return place

    def drain(self):
        pairs = self.pairs_by_serial()
        self.empty_row()
        self.shade_values(pairs)
        while self.has_grey():
            self.empty_row()
            self.shade_values(pairs)

    def empty_row(self):
        while self.has_grey():
            self.step()

    def pairs_by_serial(self):
        places = [place for place in self.memory.places() if self.memory.sort_at(place) == "pair"]
        return sorted(places, key=lambda place: self.memory.serial_at(place))

    def shade_values(self, pairs):
        for place in pairs:
            if self.memory.marked_at(place):
                self.shade_value(place)

    def shade_value(self, place):
        for key, value in self.memory.thing_at(place).waits():
            if self.memory.marked_at(key):
                self.shade_all(names_in([value]))

    def grey(self):
        return list(self.grey_places)

    def colour_of(self, place):
        if not self.memory.marked_at(place):
            return "white"
        return "grey" if place in self.grey_places else "black"
