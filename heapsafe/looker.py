"""The looker: goes through a log with a plain heap of its own and tells whether all was right."""

from heapsafe.deeds import MAKERS, NO_ROOM
from heapsafe.keeping import blind_pairs, blind_weak, due_beside, is_closed, members_of, open_things
from heapsafe.plainheap import PlainHeap
from heapsafe.programs import is_deed, is_whole

OUTSIDE = "outside"
MARKING = "marking"
SWEEPING = "sweeping"

# How many parts each row has, its word among them.
LENGTHS = {"deed": 3, "begin": 1, "turn": 8, "freed": 2, "end": 1, "packed": 1}


def has_all(some, wanted):
    members = members_of(some)
    return all([serial in members for serial in wanted])


class Looker:
    def __init__(self):
        self.heap = PlainHeap()
        self.part = OUTSIDE
        self.freed = {}
        self.to_go = {}

    def lets_row(self, row):
        if LENGTHS.get(row[0]) != len(row):
            return False
        if row[0] == "deed":
            return self.lets_deed(row[1], row[2])
        if not all([self.are_serials(some) for some in row[1:]]):
            return False
        if row[0] == "turn":
            return self.lets_turn(row)
        if row[0] == "freed":
            return self.lets_freed(row[1])
        return self.lets_bare(row[0])

    def are_serials(self, some):
        if not isinstance(some, list):
            return False
        ahead = 0
        for serial in some:
            if not is_whole(serial) or not ahead < serial <= self.heap.last() or serial in self.freed:
                return False
            ahead = serial
        return True

    def lets_deed(self, deed, answer):
        if not is_deed(deed):
            return False
        refused = self.heap.refusal(deed)
        if answer == NO_ROOM:
            return deed[0] in MAKERS and refused is None
        if refused is not None:
            return answer == refused
        return self.heap.do(deed) == answer

    def lets_bare(self, word):
        if word == "begin":
            return self.goes_on(OUTSIDE, MARKING)
        if word == "end":
            return len(self.to_go) == 0 and self.goes_on(SWEEPING, OUTSIDE)
        return self.part == OUTSIDE

    def goes_on(self, was, becomes):
        if self.part != was:
            return False
        self.part = becomes
        return True

    def lets_freed(self, serials):
        if self.part != SWEEPING or any([serial not in self.to_go for serial in serials]):
            return False
        for serial in serials:
            self.freed[serial] = True
            self.to_go.pop(serial)
        return True

    def lets_turn(self, row):
        if not self.goes_on(MARKING, SWEEPING):
            return False
        if not self.lets_set(row[1], open_things(self.heap), row[2], row[3]):
            return False
        if not self.lets_due(row[1], row[4]) or not self.lets_set(row[5], row[1] + row[4], row[6], row[7]):
            return False
        members = members_of(row[5])
        self.to_go = members_of([serial for serial in self.things_there() if serial not in members])
        return True

    def lets_due(self, kept, due):
        if due != due_beside(self.things_there(), kept):
            return False
        for serial in due:
            self.heap.make_due(serial)
        return True

    # What is kept and what stays are held to the same: closed, with all that is wanted, and rid of what is blind.
    def lets_set(self, some, wanted, cleared, dropped):
        things = self.things_there()
        if not has_all(some, wanted) or not is_closed(things, some):
            return False
        if cleared != blind_weak(things, some) or dropped != blind_pairs(things, some):
            return False
        for serial in cleared:
            self.heap.clear(serial)
        for serial in dropped:
            self.heap.drop_pair(serial)
        return True

    def things_there(self):
        there = {}
        for serial, told in self.heap.things().items():
            if serial not in self.freed:
                there[serial] = told
        return there


def lets_by(log):
    looker = Looker()
    for row in log:
        if not looker.lets_row(row):
            return False
    return True
