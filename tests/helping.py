"""What several tests share: memories laid out by hand or by chance, what is told of them, and programs by chance."""
from heapsafe.memory import Memory
from heapsafe.programs import deed_read, program_read
from heapsafe.things import pair, plain, weak

NOTHING = ("nothing",)
SEVEN = ("number", 7)


def at(place):
    return ("thing", place)


def memory_of(*things):
    """Things at places 0, 20, 40 .., with serials that fall as the places rise, so that the two are never mixed up."""
    memory = Memory(max(1, len(things)), 20)
    for number in range(len(things)):
        memory.put_in(plain([NOTHING] * 8, None), 1, False)
        memory.put_in(plain([NOTHING] * 6, None), 1, False)
    # From the last room on, the room just made free has the least gap.
    for number in reversed(range(len(things))):
        memory.take_out(number * 20)
        memory.take_out(number * 20 + 11)
        memory.put_in(things[number], len(things) - number, False)
    assert memory.places() == [number * 20 for number in range(len(things))]
    return memory


def marked(memory):
    return [place for place in memory.places() if memory.marked_at(place)]


def told_things(memory):
    """What is there as keeping wants it, by places in the place of serials."""
    told = {}
    for place in memory.places():
        thing = memory.thing_at(place)
        told[place] = (thing.sort_of(), thing.fields(), thing.words())
    return told


def random_memory(chance, many):
    """Each room takes one thing: what is left of it is too short for another."""
    places = [number * 5 for number in range(many)]
    memory = Memory(many, 5)
    serials = list(range(1, many + 1))
    chance.shuffle(serials)

    def any_value(choices):
        return chance.choice(choices + [at(chance.choice(places)) for often in range(4)])

    for serial in serials:
        kind = chance.choice(("plain", "plain", "weak", "pair", "pair"))
        if kind == "plain":
            thing = plain([any_value([NOTHING, SEVEN]), any_value([NOTHING, SEVEN])], None)
        elif kind == "weak":
            thing = weak(any_value([NOTHING]))
        else:
            thing = pair(any_value([NOTHING, SEVEN]), any_value([NOTHING, SEVEN]))
        memory.put_in(thing, serial, False)
    return memory


def deeds_of(text):
    """A program of rows with `; ` between."""
    return program_read(text.replace("; ", "\n"))


def said(heap, row):
    return heap.do(deed_read(row))


def random_deed(chance, letters, words):
    """A deed over some roots; make comes often enough that there are things to speak of."""
    word = chance.choice(words)
    root = chance.choice(letters)
    other = chance.choice(letters)
    third = chance.choice(letters)
    number = chance.randint(0, 3)
    if word in ("num", "words", "make"):
        return (word, root, number)
    if word == "put":
        return (word, root, chance.randint(0, 2), other)
    if word == "get":
        return (word, root, other, chance.randint(0, 2))
    if word in ("pair", "find"):
        return (word, root, other, third)
    if word in ("weak", "look", "copy", "same"):
        return (word, root, other)
    return (word, root)


SAFE_WORDS = ("num make make make make weak weak pair pair words words put put put put put get get get find find copy copy "
              "drop drop drop tell same").split()
ALL_WORDS = SAFE_WORDS + ["look", "look", "look", "hear", "hear"]


def random_program(chance, many, words, letters="abcde"):
    return [random_deed(chance, letters, words) for number in range(many)]


def random_cutting(chance, many):
    often = chance.choice((0.1, 0.5, 0.9))
    most = chance.choice((1, 2, 6))
    return [chance.randint(1, most) if chance.random() < often else 0 for number in range(many + 1)]
