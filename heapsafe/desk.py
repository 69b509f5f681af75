"""The desk: keeps a heap and is told rows, each answered with a text."""

from heapsafe.errors import NoDeed
from heapsafe.heap import Heap
from heapsafe.looker import lets_by
from heapsafe.programs import deed_read, is_number
from heapsafe.runs import do_steps, whole_round

FIRST_MANY = 4
FIRST_CELLS = 16
MOST_ROOMS = 100
MOST_CELLS = 1000
MOST_STEPS = 1000
FENCES = ("new", "old")


def number_between(text, least, most):
    if not is_number(text) or not least <= int(text) <= most:
        raise NoDeed(1)
    return int(text)


def listed(some):
    return " ".join([str(part) for part in some])


class Desk:
    def __init__(self):
        self.heap = Heap(FIRST_MANY, FIRST_CELLS)

    def say(self, row):
        if not isinstance(row, str):
            raise NoDeed(1)
        words = row.split(" ")
        if words[0] == "memory" and len(words) == 4:
            return self.new_memory(words[1], words[2], words[3])
        if words[0] == "steps" and len(words) == 2:
            return self.steps_done(words[1])
        told = self.asked(row)
        return self.heap.do(deed_read(row)) if told is None else told

    def new_memory(self, many, cells, fence):
        rooms = number_between(many, 1, MOST_ROOMS)
        length = number_between(cells, 1, MOST_CELLS)
        if fence not in FENCES:
            raise NoDeed(1)
        self.heap = Heap(rooms, length, fence)
        return "ok"

    def steps_done(self, many):
        do_steps(self.heap, number_between(many, 0, MOST_STEPS))
        return "ok"

    # None for all rows that are none of these.
    def asked(self, row):
        if row == "stage":
            return self.heap.stage()
        if row == "things":
            return listed(sorted(self.heap.things()))
        if row == "colours":
            colours = self.heap.colours()
            return listed([f"{serial}:" + colours[serial] for serial in sorted(colours)])
        if row == "check":
            return "let by" if lets_by(self.heap.log()) else "not"
        if row == "round":
            return listed(whole_round(self.heap))
        return None
