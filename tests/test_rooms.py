import unittest

from heapsafe.rooms import Rooms

NOTHING = ("nothing",)


def all_cells(rooms):
    many, cells = rooms.shape()
    return [rooms.read(place) for place in range(many * cells)]


def filled_at(many, cells, places):
    rooms = Rooms(many, cells)
    for place in places:
        rooms.fill_in(place, [("number", place)])
    return rooms


def gap_by_trying(taken, many, cells, length):
    for place in range(many * cells):
        wanted = range(place, place + length)
        in_one_room = wanted[-1] < (place // cells + 1) * cells
        if in_one_room and not any(at in taken for at in wanted):
            return place
    return None


class AtFirst(unittest.TestCase):
    SHAPES = ((1, 1), (1, 7), (5, 1), (3, 4), (100, 1), (100, 10), (1, 1000), (100, 1000))

    def test_all_cells_are_free(self):
        for many, cells in self.SHAPES:
            self.assertEqual(all_cells(Rooms(many, cells)), [None] * (many * cells))

    def test_the_shape_is_told(self):
        for many, cells in self.SHAPES:
            shape = Rooms(many, cells).shape()
            self.assertEqual(shape, (many, cells))
            self.assertIs(type(shape), tuple)

    def test_the_gap_is_at_0_for_all_lengths_of_a_room(self):
        for many, cells in self.SHAPES:
            rooms = Rooms(many, cells)
            self.assertEqual(rooms.gap(1), 0)
            self.assertEqual(rooms.gap(cells), 0)
            self.assertIsNone(rooms.gap(cells + 1))
            self.assertIsNone(rooms.gap(many * cells + 1))
            self.assertIsNone(rooms.gap(10**59))

    def test_several_rooms_side_by_side_are_no_gap(self):
        self.assertIsNone(Rooms(4, 3).gap(4))
        self.assertIsNone(Rooms(4, 3).gap(12))


class TheRoomOfAPlace(unittest.TestCase):
    def test_first_and_last_cells(self):
        for many, cells in ((1, 1), (1, 9), (6, 1), (3, 4), (100, 1000)):
            rooms = Rooms(many, cells)
            for room in range(many):
                self.assertEqual(rooms.room_of(room * cells), room)
                self.assertEqual(rooms.room_of(room * cells + cells - 1), room)

    def test_written_out(self):
        rooms = Rooms(3, 4)
        self.assertEqual([rooms.room_of(place) for place in range(12)], [0] * 4 + [1] * 4 + [2] * 4)
        self.assertIs(type(rooms.room_of(5)), int)


class Gaps(unittest.TestCase):
    def assert_gaps_of(self, many, cells, taken):
        rooms = filled_at(many, cells, sorted(taken))
        before = all_cells(rooms)
        for length in range(1, cells + 3):
            self.assertEqual(rooms.gap(length), gap_by_trying(taken, many, cells, length), (taken, length))
        self.assertEqual(all_cells(rooms), before)

    def test_every_way_to_fill_small_memories(self):
        for many, cells in ((1, 1), (1, 6), (6, 1), (2, 4), (3, 3), (4, 2)):
            for picked in range(2 ** (many * cells)):
                self.assert_gaps_of(many, cells, {at for at in range(many * cells) if picked >> at & 1})

    def test_a_gap_never_goes_over_a_border(self):
        rooms = filled_at(3, 4, [0, 1, 6, 7])
        self.assertEqual(rooms.gap(2), 2)
        self.assertEqual(rooms.gap(3), 8)
        self.assertEqual(rooms.gap(4), 8)
        self.assertIsNone(rooms.gap(5))

    def test_the_least_place_not_the_tightest(self):
        rooms = filled_at(1, 10, [0, 5, 8])
        self.assertEqual(rooms.gap(1), 1)
        self.assertEqual(rooms.gap(2), 1)
        self.assertEqual(rooms.gap(4), 1)
        self.assertIsNone(rooms.gap(5))

    def test_a_full_memory_has_none(self):
        rooms = Rooms(2, 2)
        rooms.fill_in(0, [1, 2])
        rooms.fill_in(2, [3, 4])
        for length in (1, 2, 3, 4, 5):
            self.assertIsNone(rooms.gap(length))

    def test_only_the_last_cell_of_a_hundred_rooms(self):
        rooms = filled_at(100, 3, range(299))
        self.assertEqual(rooms.gap(1), 299)
        self.assertIsNone(rooms.gap(2))

    def test_only_the_last_of_a_hundred_rooms(self):
        rooms = Rooms(100, 1000)
        for room in range(99):
            rooms.fill_in(room * 1000, [NOTHING] * 1000)
        self.assertEqual(rooms.gap(1), 99000)
        self.assertEqual(rooms.gap(1000), 99000)
        rooms.fill_in(99000, [NOTHING])
        self.assertEqual(rooms.gap(999), 99001)
        self.assertIsNone(rooms.gap(1000))

    def test_asking_twice_tells_the_same(self):
        rooms = filled_at(2, 5, [1])
        self.assertEqual([rooms.gap(2), rooms.gap(2), rooms.gap(1), rooms.gap(2)], [2, 2, 0, 2])

    def test_a_cell_with_nought_or_nothing_in_it_is_not_free(self):
        rooms = Rooms(1, 3)
        rooms.fill_in(0, [0, NOTHING])
        self.assertEqual(rooms.gap(1), 2)
        self.assertIsNone(rooms.gap(2))

    def test_made_free_cells_are_a_gap_again(self):
        rooms = filled_at(2, 4, range(8))
        rooms.set_free(3, 1)
        rooms.set_free(4, 1)
        self.assertEqual(rooms.gap(1), 3)
        self.assertIsNone(rooms.gap(2))
        rooms.set_free(5, 1)
        self.assertEqual(rooms.gap(2), 4)

    def test_a_written_cell_stays_no_gap(self):
        rooms = filled_at(1, 2, [0, 1])
        rooms.write(0, NOTHING)
        self.assertIsNone(rooms.gap(1))


class Cells(unittest.TestCase):
    def test_one_room_of_one_cell(self):
        rooms = Rooms(1, 1)
        rooms.fill_in(0, [("number", 7)])
        self.assertEqual(rooms.read(0), ("number", 7))
        self.assertIsNone(rooms.gap(1))
        rooms.write(0, ("thing", 0))
        self.assertEqual(rooms.read(0), ("thing", 0))
        rooms.set_free(0, 1)
        self.assertIsNone(rooms.read(0))
        self.assertEqual(rooms.gap(1), 0)

    def test_put_in_from_a_place_on(self):
        rooms = Rooms(2, 4)
        rooms.fill_in(1, [36, 9, NOTHING])
        self.assertEqual(all_cells(rooms), [None, 36, 9, NOTHING, None, None, None, None])
        rooms.fill_in(4, [("number", 10**59), ("thing", 1)])
        self.assertEqual(all_cells(rooms), [None, 36, 9, NOTHING, ("number", 10**59), ("thing", 1), None, None])

    def test_a_whole_room(self):
        rooms = Rooms(3, 3)
        rooms.fill_in(3, [4, 5, 6])
        self.assertEqual(all_cells(rooms), [None] * 3 + [4, 5, 6] + [None] * 3)
        rooms.set_free(3, 3)
        self.assertEqual(all_cells(rooms), [None] * 9)

    def test_first_and_last_cell_of_each_room(self):
        rooms = Rooms(100, 10)
        wanted = [None] * 1000
        for room in range(100):
            for place in (room * 10, room * 10 + 9):
                rooms.fill_in(place, [("number", place)])
                wanted[place] = ("number", place)
        self.assertEqual(all_cells(rooms), wanted)
        for room in range(100):
            rooms.write(room * 10, ("thing", room))
            wanted[room * 10] = ("thing", room)
            rooms.set_free(room * 10 + 9, 1)
            wanted[room * 10 + 9] = None
        self.assertEqual(all_cells(rooms), wanted)

    def test_written_is_just_the_one_cell(self):
        for place in range(6):
            rooms = filled_at(2, 3, range(6))
            wanted = all_cells(rooms)
            wanted[place] = NOTHING
            rooms.write(place, NOTHING)
            self.assertEqual(all_cells(rooms), wanted)

    def test_made_free_are_just_the_told_cells(self):
        for place, length in ((0, 1), (0, 4), (1, 2), (3, 1), (4, 1), (4, 3), (7, 1)):
            rooms = filled_at(2, 4, range(8))
            wanted = all_cells(rooms)
            wanted[place:place + length] = [None] * length
            rooms.set_free(place, length)
            self.assertEqual(all_cells(rooms), wanted)

    def test_a_room_of_a_thousand_cells(self):
        rooms = Rooms(2, 1000)
        rooms.fill_in(1000, list(range(1, 1001)))
        self.assertEqual(all_cells(rooms), [None] * 1000 + list(range(1, 1001)))
        rooms.set_free(1001, 998)
        self.assertEqual(all_cells(rooms), [None] * 1000 + [1] + [None] * 998 + [1000])

    def test_free_cells_take_new_values(self):
        rooms = Rooms(1, 3)
        rooms.fill_in(0, [1, 2, 3])
        rooms.set_free(1, 1)
        rooms.fill_in(1, [("number", 2)])
        self.assertEqual(all_cells(rooms), [1, ("number", 2), 3])

    def test_asking_changes_nothing(self):
        rooms = filled_at(2, 4, [1, 2, 7])
        before = all_cells(rooms)
        for place in range(8):
            rooms.read(place)
            rooms.room_of(place)
            rooms.gap(place + 1)
            rooms.shape()
        self.assertEqual(all_cells(rooms), before)
        self.assertEqual(rooms.shape(), (2, 4))


class NothingIsShared(unittest.TestCase):
    def test_a_list_changed_behind_fill_in_changes_nothing(self):
        rooms = Rooms(1, 5)
        some = [1, NOTHING, ("number", 3)]
        rooms.fill_in(1, some)
        some[0] = 99
        some.append(5)
        some.reverse()
        self.assertEqual(all_cells(rooms), [None, 1, NOTHING, ("number", 3), None])
        some.clear()
        self.assertEqual(all_cells(rooms), [None, 1, NOTHING, ("number", 3), None])

    def test_a_list_that_fills_a_whole_memory_is_not_kept(self):
        rooms = Rooms(1, 3)
        some = [1, 2, 3]
        rooms.fill_in(0, some)
        some[1] = 99
        self.assertEqual(all_cells(rooms), [1, 2, 3])

    def test_a_list_handed_in_is_not_changed(self):
        rooms = Rooms(1, 3)
        some = [1, 2, 3]
        rooms.fill_in(0, some)
        rooms.write(1, 7)
        rooms.set_free(2, 1)
        self.assertEqual(some, [1, 2, 3])

    def test_one_list_put_in_twice(self):
        rooms = Rooms(2, 2)
        some = [1, 2]
        rooms.fill_in(0, some)
        rooms.fill_in(2, some)
        rooms.write(0, 9)
        self.assertEqual(all_cells(rooms), [9, 2, 1, 2])

    def test_two_memories_have_nothing_in_common(self):
        one, other = Rooms(2, 3), Rooms(2, 3)
        some = [1, 2, 3]
        one.fill_in(0, some)
        self.assertEqual(all_cells(other), [None] * 6)
        self.assertEqual(other.gap(3), 0)
        other.fill_in(0, some)
        other.write(1, 8)
        one.set_free(0, 1)
        self.assertEqual(all_cells(one), [None, 2, 3, None, None, None])
        self.assertEqual(all_cells(other), [1, 8, 3, None, None, None])

    def test_memories_of_different_shapes(self):
        one, other = Rooms(2, 3), Rooms(3, 2)
        self.assertEqual((one.shape(), other.shape()), ((2, 3), (3, 2)))
        self.assertEqual((one.room_of(2), other.room_of(2)), (0, 1))
        self.assertEqual((one.gap(3), other.gap(3)), (0, None))


if __name__ == "__main__":
    unittest.main()
