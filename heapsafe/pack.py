"""Packing: in each room the things slide to its lowest places."""


def pack(memory):
    moved = {}
    for room in range(memory.shape()[0]):
        moved.update(slide_room(memory, room))
    for place in memory.places():
        rename_fields(memory, place, moved)
    return moved


def slide_room(memory, room):
    moved = {}
    where = room * memory.shape()[1]
    for place in memory.places_in(room):
        memory.move(place, where)
        moved[place] = where
        where += memory.size_at(where)
    return moved


def rename_fields(memory, place, moved):
    for at, value in enumerate(memory.thing_at(place).fields()):
        memory.set_field(place, at, renamed(value, moved))


# A value that names no thing that is there stays as it is.
def renamed(value, moved):
    return ("thing", moved.get(value[1], value[1])) if value[0] == "thing" else value
