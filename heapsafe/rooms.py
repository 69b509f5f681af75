"""Rooms: a memory's cells, numbered room by room, each free (None) or with something in it."""


class Rooms:
    def __init__(self, many, cells):
        self.many = many
        self.cells = cells
        self.inside = [None] * (many * cells)

    def gap(self, length):
        for room in range(self.many):
            place = self.gap_in(room, length)
            if place is not None:
                return place
        return None

    def gap_in(self, room, length):
        first = room * self.cells
        # The count of free cells starts anew in each room: a gap never goes over a border.
        free = 0
        for place in range(first, first + self.cells):
            free = free + 1 if self.inside[place] is None else 0
            if free == length:
                return place - length + 1
        return None

    def fill_in(self, place, some):
        for at, value in enumerate(some, start=place):
            self.inside[at] = value

    def set_free(self, place, length):
        for at in range(place, place + length):
            self.inside[at] = None

    def read(self, place):
        return self.inside[place]

    def write(self, place, value):
        self.inside[place] = value

    def room_of(self, place):
        return place // self.cells

    def shape(self):
        return (self.many, self.cells)
