"""The turn: the one step between marking and sweeping."""

from heapsafe.things import NOTHING, names_in


def serials_of(memory, places):
    return sorted([memory.serial_at(place) for place in places])


def marked_places(memory):
    return [place for place in memory.places() if memory.marked_at(place)]


def is_blind(memory, place):
    first = memory.thing_at(place).fields()[:1]
    return any([not memory.marked_at(name) for name in names_in(first)])


# Weak things are cleared and pairs dropped alike: nothing is left in their fields.
def empty_blind(memory, sort):
    of_sort = [place for place in marked_places(memory) if memory.sort_at(place) == sort]
    blind = [place for place in of_sort if is_blind(memory, place)]
    for place in blind:
        for at in range(len(memory.thing_at(place).fields())):
            memory.set_field(place, at, NOTHING)
    return serials_of(memory, blind)


def due_places(memory):
    unmarked = [place for place in memory.places() if not memory.marked_at(place)]
    due = [place for place in unmarked if memory.thing_at(place).words() is not None]
    return sorted(due, key=lambda place: memory.serial_at(place))


def bring_back(memory, marking, heard):
    due = due_places(memory)
    for place in due:
        heard.append((place, memory.thing_at(place).words()))
        memory.set_words(place, None)
        marking.shade(place)
    marking.drain()
    return serials_of(memory, due)


def turn(memory, marking, heard):
    marking.drain()
    kept = serials_of(memory, marked_places(memory))
    cleared = empty_blind(memory, "weak")
    dropped = empty_blind(memory, "pair")
    due = bring_back(memory, marking, heard)
    stays = serials_of(memory, marked_places(memory))
    cleared_too = empty_blind(memory, "weak")
    dropped_too = empty_blind(memory, "pair")
    return ("turn", kept, cleared, dropped, due, stays, cleared_too, dropped_too)
