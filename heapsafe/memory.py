"""The memory: things in rooms, each in cells side by side, with values that name things by their places."""

from heapsafe.headers import has_words, header, is_marked, kind_in, size_in, with_mark, with_words
from heapsafe.rooms import Rooms
from heapsafe.things import NOTHING, pair, plain, weak

# A sort's place here is its kind in headers.
SORTS = ("plain", "weak", "pair")
SERIAL_AT = 1
WORDS_AT = 2


def first_field(sort):
    return 3 if sort == "plain" else 2


def size_of(thing):
    return first_field(thing.sort_of()) + len(thing.fields())


def words_cell(words):
    return NOTHING if words is None else ("number", words)


def cells_of(thing, serial, marked):
    words = thing.words()
    head = header(SORTS.index(thing.sort_of()), marked, words is not None, size_of(thing))
    between = [words_cell(words)] if thing.sort_of() == "plain" else []
    return [head, serial] + between + thing.fields()


class Memory:
    def __init__(self, many, cells):
        self.rooms = Rooms(many, cells)
        # For each room the places at which its things begin.
        self.begins = [{} for room in range(many)]

    def put_in(self, thing, serial, marked):
        place = self.rooms.gap(size_of(thing))
        if place is not None:
            self.fill_from(place, cells_of(thing, serial, marked))
        return place

    def fill_from(self, place, some):
        self.rooms.fill_in(place, some)
        self.begins[self.rooms.room_of(place)][place] = True

    def head_at(self, place):
        return self.rooms.read(place)

    def thing_at(self, place):
        sort = self.sort_at(place)
        some = [self.rooms.read(at) for at in range(place + first_field(sort), place + self.size_at(place))]
        if sort == "plain":
            return plain(some, self.words_at(place))
        return weak(some[0]) if sort == "weak" else pair(some[0], some[1])

    def words_at(self, place):
        return self.rooms.read(place + WORDS_AT)[1] if has_words(self.head_at(place)) else None

    def serial_at(self, place):
        return self.rooms.read(place + SERIAL_AT)

    def size_at(self, place):
        return size_in(self.head_at(place))

    def sort_at(self, place):
        return SORTS[kind_in(self.head_at(place))]

    # A value may name a place whose thing was taken out; nothing is marked there.
    def marked_at(self, place):
        return place in self.begins[self.rooms.room_of(place)] and is_marked(self.head_at(place))

    def set_mark(self, place, marked):
        self.rooms.write(place, with_mark(self.head_at(place), marked))

    def set_field(self, place, at, value):
        self.rooms.write(place + first_field(self.sort_at(place)) + at, value)

    def set_words(self, place, words):
        self.rooms.write(place, with_words(self.head_at(place), words is not None))
        self.rooms.write(place + WORDS_AT, words_cell(words))

    def take_out(self, place):
        self.rooms.set_free(place, self.size_at(place))
        self.begins[self.rooms.room_of(place)].pop(place)

    def move(self, place, where):
        inside = [self.rooms.read(at) for at in range(place, place + self.size_at(place))]
        self.take_out(place)
        self.fill_from(where, inside)

    def places(self):
        told = []
        for room in range(len(self.begins)):
            told.extend(self.places_in(room))
        return told

    def places_in(self, room):
        return sorted(self.begins[room])

    def has_gap(self, length):
        return self.rooms.gap(length) is not None

    def shape(self):
        return self.rooms.shape()
