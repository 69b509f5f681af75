"""Sweeping: what is not marked is taken out, room by room."""


def sweep_room(memory, room):
    gone = [place for place in memory.places_in(room) if not memory.marked_at(place)]
    serials = sorted([memory.serial_at(place) for place in gone])
    for place in gone:
        memory.take_out(place)
    return serials
