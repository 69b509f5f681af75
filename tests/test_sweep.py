import unittest

from heapsafe.memory import Memory
from heapsafe.sweep import sweep_room
from heapsafe.things import pair, plain, weak
from helping import NOTHING, SEVEN, at, marked, told_things


def memory_with(marks):
    """Three rooms of three weak things each; the serials fall as the places rise."""
    memory = Memory(3, 9)
    for number in range(9):
        memory.put_in(weak(NOTHING), 9 - number, number * 3 in marks)
    return memory


class SweptRooms(unittest.TestCase):
    def test_marked_and_unmarked_things(self):
        memory = memory_with([3, 9, 15, 18])
        self.assertEqual(sweep_room(memory, 0), [7, 9])
        self.assertEqual(memory.places(), [3, 9, 12, 15, 18, 21, 24])
        self.assertEqual(sweep_room(memory, 1), [5])
        self.assertEqual(memory.places(), [3, 9, 15, 18, 21, 24])
        self.assertEqual(sweep_room(memory, 2), [1, 2])
        self.assertEqual(memory.places(), [3, 9, 15, 18])

    def test_rooms_in_which_all_or_none_are_marked(self):
        memory = memory_with([0, 3, 6])
        self.assertEqual(sweep_room(memory, 0), [])
        self.assertEqual(sweep_room(memory, 2), [1, 2, 3])
        self.assertEqual(memory.places(), [0, 3, 6, 9, 12, 15])

    def test_empty_rooms(self):
        memory = Memory(2, 5)
        self.assertEqual((sweep_room(memory, 0), sweep_room(memory, 1), memory.places()), ([], [], []))

    def test_swept_twice(self):
        memory = memory_with([3])
        self.assertEqual((sweep_room(memory, 0), sweep_room(memory, 0)), ([7, 9], []))
        self.assertEqual(memory.places_in(0), [3])

    def test_serials_rise_whatever_the_order_of_the_places(self):
        memory = Memory(1, 15)
        for serial in (4, 9, 1, 7, 3):
            memory.put_in(weak(NOTHING), serial, False)
        self.assertEqual(sweep_room(memory, 0), [1, 3, 4, 7, 9])

    def test_other_rooms_and_all_marks_stay(self):
        memory = memory_with([3, 9, 15, 18])
        others = {place: told for place, told in told_things(memory).items() if place not in (0, 6)}
        marks = marked(memory)
        sweep_room(memory, 0)
        self.assertEqual((told_things(memory), marked(memory)), (others, marks))

    def test_all_sorts_and_their_cells(self):
        memory = Memory(2, 12)
        memory.put_in(plain([SEVEN, at(5)], 3), 1, False)
        memory.put_in(pair(at(0), at(9)), 2, True)
        memory.put_in(weak(at(0)), 3, False)
        memory.put_in(plain([at(0)], None), 4, False)
        self.assertFalse(memory.has_gap(9))
        self.assertEqual(sweep_room(memory, 0), [1, 3])
        self.assertEqual(memory.places(), [5, 12])
        self.assertEqual((memory.thing_at(5).fields(), memory.thing_at(12).fields()), ([at(0), at(9)], [at(0)]))
        self.assertEqual(memory.put_in(plain([SEVEN, NOTHING], None), 5, False), 0)
        self.assertEqual(memory.put_in(weak(NOTHING), 6, False), 9)

    def test_things_with_last_words_are_taken_out_too(self):
        memory = Memory(1, 3)
        memory.put_in(plain([], 5), 1, False)
        self.assertEqual((sweep_room(memory, 0), memory.places()), ([1], []))

    def test_the_list_told_is_ones_own(self):
        memory = memory_with([])
        told = sweep_room(memory, 0)
        self.assertIs(type(told), list)
        told.append(5)
        self.assertEqual(sweep_room(memory, 0), [])


if __name__ == "__main__":
    unittest.main()
