import random
import unittest

from heapsafe.memory import Memory
from heapsafe.pack import pack
from heapsafe.things import pair, plain, weak
from helping import NOTHING, SEVEN, at, marked, told_things


def by_serials(memory):
    """All that is there with serials in the place of places, so that it can be compared over a packing."""
    def told(value):
        return ("thing", memory.serial_at(value[1])) if value[0] == "thing" else value

    there = {}
    for place in memory.places():
        thing = memory.thing_at(place)
        fields = [told(value) for value in thing.fields()]
        there[memory.serial_at(place)] = (thing.sort_of(), fields, thing.words(), memory.size_at(place), memory.marked_at(place))
    return there


def gaps_by_room(memory):
    """For each room whether its things lie side by side from its lowest place on."""
    many, cells = memory.shape()
    packed = []
    for room in range(many):
        where = room * cells
        good = True
        for place in memory.places_in(room):
            good = good and place == where
            where += memory.size_at(place)
        packed.append(good)
    return packed


class Packed(unittest.TestCase):
    def test_empty_rooms(self):
        memory = Memory(3, 5)
        self.assertEqual((pack(memory), memory.places()), ({}, []))

    def test_full_rooms_stay(self):
        memory = Memory(2, 6)
        for serial in range(1, 5):
            memory.put_in(weak(at(9)), serial, serial % 2 == 0)
        before = told_things(memory)
        self.assertEqual(pack(memory), {0: 0, 3: 3, 6: 6, 9: 9})
        self.assertEqual((told_things(memory), marked(memory)), (before, [3, 9]))

    def test_gaps_at_the_beginning_in_the_middle_and_at_the_end(self):
        for gone in ([0], [3], [9], [0, 3], [3, 6], [0, 6], [0, 9], [0, 3, 6], [6, 9]):
            memory = Memory(1, 14)
            for serial in range(1, 5):
                memory.put_in(weak(NOTHING), serial, False)
            for place in gone:
                memory.take_out(place)
            there = memory.places()
            serials = [memory.serial_at(place) for place in there]
            self.assertEqual(pack(memory), {place: number * 3 for number, place in enumerate(there)})
            self.assertEqual(memory.places(), [number * 3 for number in range(len(there))])
            self.assertEqual([memory.serial_at(place) for place in memory.places()], serials)
            self.assertTrue(memory.has_gap(14 - 3 * len(there)))
            self.assertFalse(memory.has_gap(15 - 3 * len(there)))

    def test_things_of_all_sizes_keep_their_turn(self):
        memory = Memory(1, 60)
        things = [plain([SEVEN] * many, many) for many in range(9)] + [weak(NOTHING), pair(NOTHING, SEVEN)]
        places = [memory.put_in(thing, serial, False) for serial, thing in enumerate(things, start=1)][:7]
        for place in places[::2]:
            memory.take_out(place)
        before = by_serials(memory)
        pack(memory)
        self.assertEqual(by_serials(memory), before)
        self.assertEqual([memory.serial_at(place) for place in memory.places()], sorted(before))
        self.assertEqual(gaps_by_room(memory), [True])

    def test_each_room_by_itself(self):
        memory = Memory(3, 7)
        for serial in range(1, 7):
            memory.put_in(weak(NOTHING), serial, False)
        for place in (0, 7, 10, 14):
            memory.take_out(place)
        self.assertEqual(pack(memory), {3: 0, 17: 14})
        self.assertEqual((memory.places(), memory.serial_at(0), memory.serial_at(14)), ([0, 14], 2, 6))

    def test_values_name_the_same_things_by_their_new_places(self):
        memory = Memory(2, 16)
        memory.put_in(weak(NOTHING), 1, False)
        memory.put_in(plain([at(8), at(16), at(3), SEVEN, ("number", 8), NOTHING], 8), 2, True)
        memory.put_in(weak(NOTHING), 3, False)
        memory.put_in(weak(NOTHING), 4, False)
        memory.put_in(pair(at(3), at(12)), 5, False)
        self.assertEqual(memory.places(), [0, 3, 12, 16, 19])
        memory.set_field(3, 0, at(12))
        memory.set_field(3, 1, at(19))
        memory.set_field(12, 0, at(19))
        memory.take_out(0)
        memory.take_out(16)
        before = by_serials(memory)
        self.assertEqual(pack(memory), {3: 0, 12: 9, 19: 16})
        self.assertEqual(by_serials(memory), before)
        self.assertEqual(memory.thing_at(0).fields(), [at(9), at(16), at(0), SEVEN, ("number", 8), NOTHING])
        self.assertEqual((memory.thing_at(9).fields(), memory.thing_at(16).fields()), ([at(16)], [at(0), at(9)]))
        self.assertEqual(memory.thing_at(0).words(), 8)

    def test_marks_stay(self):
        memory = Memory(1, 15)
        for serial, mark in ((1, False), (2, True), (3, False), (4, True), (5, True)):
            memory.put_in(weak(NOTHING), serial, mark)
        memory.take_out(0)
        memory.take_out(9)
        self.assertEqual(pack(memory), {3: 0, 6: 3, 12: 6})
        self.assertEqual(marked(memory), [0, 6])

    def test_values_that_name_no_thing_that_is_there_stay(self):
        memory = Memory(1, 12)
        memory.put_in(weak(NOTHING), 1, False)
        memory.put_in(weak(NOTHING), 2, False)
        memory.put_in(pair(at(3), at(0)), 3, False)
        memory.take_out(0)
        self.assertEqual(pack(memory), {3: 0, 6: 3})
        self.assertEqual(memory.thing_at(3).fields(), [at(0), at(0)])

    def test_packed_again_each_place_leads_to_itself(self):
        memory = Memory(1, 12)
        for serial in range(1, 5):
            memory.put_in(weak(at(9)), serial, False)
        memory.take_out(3)
        pack(memory)
        before = told_things(memory)
        self.assertEqual(pack(memory), {0: 0, 3: 3, 6: 6})
        self.assertEqual(told_things(memory), before)

    def test_the_dict_told_is_ones_own(self):
        memory = Memory(1, 6)
        memory.put_in(weak(NOTHING), 1, False)
        told = pack(memory)
        self.assertIs(type(told), dict)
        told[0] = 99
        told[7] = 1
        self.assertEqual(pack(memory), {0: 0})

    def test_many(self):
        chance = random.Random(47)
        for turn in range(200):
            memory = self.memory_with_gaps(chance)
            before, rooms = by_serials(memory), [[memory.serial_at(place) for place in memory.places_in(room)] for room in range(4)]
            old = {memory.serial_at(place): place for place in memory.places()}
            told = pack(memory)
            self.assertEqual(told, {old[memory.serial_at(place)]: place for place in memory.places()})
            self.assertEqual(by_serials(memory), before)
            self.assertEqual(gaps_by_room(memory), [True] * 4)
            self.assertEqual([[memory.serial_at(place) for place in memory.places_in(room)] for room in range(4)], rooms)
            self.assertEqual(pack(memory), {place: place for place in memory.places()})

    def memory_with_gaps(self, chance):
        memory = Memory(4, 24)
        for serial in range(1, 25):
            choices = [plain([NOTHING] * chance.randint(0, 4), chance.choice((None, 3))), weak(NOTHING), pair(NOTHING, NOTHING)]
            memory.put_in(chance.choice(choices), serial, chance.random() < 0.5)
        for place in memory.places():
            if chance.random() < 0.4:
                memory.take_out(place)
        for place in memory.places():
            for number in range(len(memory.thing_at(place).fields())):
                memory.set_field(place, number, chance.choice((NOTHING, SEVEN, at(chance.choice(memory.places())))))
        return memory


if __name__ == "__main__":
    unittest.main()
