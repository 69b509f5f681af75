"""Runs: a program with steps between its deeds, and whole rounds."""

from heapsafe.deeds import NO_FIELD, NO_ROOM, NO_THING
from heapsafe.errors import NoField, NoRoom, NoThing
from heapsafe.heap import Heap, end_round


def outcome(heap, deed):
    try:
        return heap.do(deed)
    except NoThing:
        return NO_THING
    except NoField:
        return NO_FIELD
    except NoRoom:
        return NO_ROOM


def do_steps(heap, many):
    for step in range(many):
        heap.step()


def run(program, cutting, fence, many, cells):
    heap = Heap(many, cells, fence)
    steps = cutting + [0] * (len(program) + 1)
    answers = []
    for at, deed in enumerate(program):
        do_steps(heap, steps[at])
        answers.append(outcome(heap, deed))
    do_steps(heap, steps[len(program)])
    return (answers, heap.log())


def whole_round(heap):
    end_round(heap)
    ahead = len(heap.log())
    heap.step()
    end_round(heap)
    freed = []
    for row in heap.log()[ahead:]:
        if row[0] == "freed":
            freed.extend(row[1])
    return sorted(freed)
