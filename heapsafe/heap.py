"""The heap: does deeds in a memory that is cleared in small steps, and keeps a log of all of it."""

from heapsafe.colours import Marking
from heapsafe.deeds import MAKERS, NO_ROOM, DeedHeap, new_thing, refuse
from heapsafe.fences import fence_of
from heapsafe.memory import Memory, size_of
from heapsafe.pack import pack, renamed
from heapsafe.sweep import sweep_room
from heapsafe.things import NOTHING, is_thing, names_in
from heapsafe.turn import turn

REST = "rest"
MARKING = "marking"
SWEEPING = "sweeping"


def copied_row(row):
    return tuple([list(part) if isinstance(part, list) else part for part in row])


def end_round(heap):
    while heap.stage() != REST:
        heap.step()


class Heap(DeedHeap):
    def __init__(self, many, cells, fence="new"):
        DeedHeap.__init__(self)
        self.memory = Memory(many, cells)
        self.marking = Marking(self.memory)
        self.fence = fence_of(fence)
        self.rows = []
        self.part = REST
        self.room = 0
        self.newest = 0

    def do(self, deed):
        refused = self.refusal(deed)
        if refused is None and deed[0] in MAKERS and not self.finds_room(deed):
            refused = NO_ROOM
        answer = self.done(deed) if refused is None else refused
        self.rows.append(("deed", deed, answer))
        if refused is not None:
            refuse(refused)
        return answer

    def finds_room(self, deed):
        length = size_of(new_thing(self, deed))
        if not self.memory.has_gap(length):
            end_round(self)
            self.step()
            end_round(self)
            self.pack_all()
        return self.memory.has_gap(length)

    def pack_all(self):
        moved = pack(self.memory)
        for letter in list(self.root_values):
            self.set_root(letter, renamed(self.root(letter), moved))
        self.heard = [(moved[place], words) for place, words in self.heard]
        self.rows.append(("packed",))

    def thing_of(self, name):
        return self.memory.thing_at(name)

    def take_in(self, thing):
        self.newest += 1
        return self.memory.put_in(thing, self.newest, self.marks_new())

    def marks_new(self):
        return self.part == SWEEPING or (self.part == MARKING and self.fence.marks_new())

    def change_field(self, name, at, value):
        if self.part == MARKING:
            was = self.thing_of(name).fields()[at]
            self.marking.shade_all(self.fence.put_shades(was, value))
        self.memory.set_field(name, at, value)

    def change_words(self, name, words):
        self.memory.set_words(name, words)

    def looked_at(self, name):
        value = self.thing_of(name).fields()[0]
        if self.part == MARKING and self.fence.shades_look():
            self.marking.shade_all(names_in([value]))
        return value

    def step(self):
        if self.part == REST:
            self.begin_marking()
        elif self.part == SWEEPING:
            self.sweep_next()
        elif self.marking.has_grey():
            self.marking.step()
        else:
            self.turn_over()

    def begin_marking(self):
        self.part = MARKING
        self.marking.shade_all(self.open_places())
        self.rows.append(("begin",))

    def open_places(self):
        named = names_in(list(self.root_values.values()))
        heard = [place for place, words in self.heard]
        return sorted(named + heard, key=lambda place: self.memory.serial_at(place))

    def turn_over(self):
        if self.fence.shades_open():
            self.marking.shade_all(self.open_places())
        self.rows.append(turn(self.memory, self.marking, self.heard))
        self.part = SWEEPING
        self.room = 0

    def sweep_next(self):
        self.rows.append(("freed", sweep_room(self.memory, self.room)))
        self.room += 1
        if self.room == self.memory.shape()[0]:
            self.end_sweeping()

    def end_sweeping(self):
        for place in self.memory.places():
            self.memory.set_mark(place, False)
        self.part = REST
        self.rows.append(("end",))

    def stage(self):
        return self.part

    def log(self):
        return [copied_row(row) for row in self.rows]

    # While sweeping the unmarked things are as good as gone, and may name places that are free by now.
    def told_places(self):
        return [place for place in self.memory.places() if self.part != SWEEPING or self.memory.marked_at(place)]

    def serial_value(self, value):
        return ("thing", self.memory.serial_at(value[1])) if is_thing(value) else value

    def told_thing(self, place):
        thing = self.memory.thing_at(place)
        return (thing.sort_of(), [self.serial_value(value) for value in thing.fields()], thing.words())

    def things(self):
        return dict([(self.memory.serial_at(place), self.told_thing(place)) for place in self.told_places()])

    def roots(self):
        there = [(letter, value) for letter, value in self.root_values.items() if value != NOTHING]
        return dict([(letter, self.serial_value(value)) for letter, value in there])

    def heard_row(self):
        return [(self.memory.serial_at(place), words) for place, words in self.heard]

    def colours(self):
        return dict([(self.memory.serial_at(place), self.marking.colour_of(place)) for place in self.told_places()])

    def rooms_of(self):
        cells = self.memory.shape()[1]
        return dict([(self.memory.serial_at(place), place // cells) for place in self.told_places()])

    def last(self):
        return self.newest
