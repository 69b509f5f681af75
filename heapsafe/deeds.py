"""Deeds, as the plain heap and the heap both do them: what they want, what they change, what they answer.

Names of things are serials in the one heap and places in the other; nothing here looks into them.
"""

from heapsafe.errors import NoField, NoRoom, NoThing
from heapsafe.things import NOTHING, is_thing, pair, plain, weak

NO_THING = "no thing"
NO_FIELD = "no field"
NO_ROOM = "no room"
MAKERS = ("make", "weak", "pair")

# For each deed that wants things: which part names the root, and of what sort the thing in it is to be.
WANTS = {
    "weak": ((2, "any"),),
    "pair": ((2, "any"),),
    "words": ((1, "plain"),),
    "put": ((1, "plain"),),
    "get": ((2, "plain"),),
    "look": ((2, "weak"),),
    "find": ((2, "pair"), (3, "any")),
}

# For each deed that wants a field: which part names the root, and which the field.
WANTS_FIELD = {"put": (1, 2), "get": (2, 3)}


def refuse(word):
    if word == NO_THING:
        raise NoThing(word)
    if word == NO_FIELD:
        raise NoField(word)
    raise NoRoom(word)


def has_sort(heap, letter, sort):
    if not is_thing(heap.root(letter)):
        return False
    return sort == "any" or heap.thing_in(letter).sort_of() == sort


def lacks_thing(heap, deed):
    return any([not has_sort(heap, deed[at], sort) for at, sort in WANTS.get(deed[0], ())])


def lacks_field(heap, deed):
    wanted = WANTS_FIELD.get(deed[0])
    if wanted is None:
        return False
    many = len(heap.thing_in(deed[wanted[0]]).fields())
    return not 0 <= deed[wanted[1]] < many


def new_thing(heap, deed):
    if deed[0] == "make":
        return plain([NOTHING] * deed[2], None)
    if deed[0] == "weak":
        return weak(heap.root(deed[2]))
    return pair(heap.root(deed[2]), heap.root(deed[3]))


def do_num(heap, deed):
    heap.set_root(deed[1], ("number", deed[2]))
    return "ok"


def do_new(heap, deed):
    heap.set_root(deed[1], ("thing", heap.take_in(new_thing(heap, deed))))
    return "ok"


def do_words(heap, deed):
    heap.change_words(heap.name_in(deed[1]), deed[2])
    return "ok"


def do_put(heap, deed):
    heap.change_field(heap.name_in(deed[1]), deed[2], heap.root(deed[3]))
    return "ok"


def do_get(heap, deed):
    heap.set_root(deed[1], heap.thing_in(deed[2]).fields()[deed[3]])
    return "ok"


def do_look(heap, deed):
    heap.set_root(deed[1], heap.looked_at(heap.name_in(deed[2])))
    return "ok"


def do_find(heap, deed):
    some = heap.thing_in(deed[2]).fields()
    heap.set_root(deed[1], some[1] if some[0] == heap.root(deed[3]) else NOTHING)
    return "ok"


def do_copy(heap, deed):
    heap.set_root(deed[1], heap.root(deed[2]))
    return "ok"


def do_drop(heap, deed):
    heap.set_root(deed[1], NOTHING)
    return "ok"


def do_tell(heap, deed):
    value = heap.root(deed[1])
    return str(value[1]) if value[0] == "number" else value[0]


def do_same(heap, deed):
    return "yes" if heap.root(deed[1]) == heap.root(deed[2]) else "no"


def do_hear(heap, deed):
    first = heap.hear_first()
    heap.set_root(deed[1], NOTHING if first is None else ("thing", first[0]))
    return "none" if first is None else str(first[1])


DOERS = {
    "num": do_num,
    "make": do_new,
    "weak": do_new,
    "pair": do_new,
    "words": do_words,
    "put": do_put,
    "get": do_get,
    "look": do_look,
    "find": do_find,
    "copy": do_copy,
    "drop": do_drop,
    "tell": do_tell,
    "same": do_same,
    "hear": do_hear,
}


# A class under this one keeps the things, by methods of its own: thing_of(name), take_in(thing), which tells the new
# thing's name, change_field(name, at, value) and change_words(name, words).
class DeedHeap:
    def __init__(self):
        self.root_values = {}
        self.heard = []

    def root(self, letter):
        return self.root_values.get(letter, NOTHING)

    def set_root(self, letter, value):
        self.root_values[letter] = value

    def name_in(self, letter):
        return self.root(letter)[1]

    def thing_in(self, letter):
        return self.thing_of(self.name_in(letter))

    def looked_at(self, name):
        return self.thing_of(name).fields()[0]

    def hear_first(self):
        return self.heard.pop(0) if self.heard else None

    # None where nothing stands against the deed; want of room is not asked here.
    def refusal(self, deed):
        if lacks_thing(self, deed):
            return NO_THING
        if lacks_field(self, deed):
            return NO_FIELD
        return None

    def done(self, deed):
        return DOERS[deed[0]](self, deed)
