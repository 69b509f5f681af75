import random
import unittest

from heapsafe.headers import header
from heapsafe.memory import Memory
from heapsafe.things import Thing, pair, plain, weak

NOTHING = ("nothing",)
SEVEN = ("number", 7)
HUGE = ("number", 10**60 - 1)


def at(place):
    return ("thing", place)


def told(thing):
    return (thing.sort_of(), thing.fields(), thing.words())


def told_at(memory, place):
    return told(memory.thing_at(place)) + (memory.serial_at(place), memory.size_at(place), memory.marked_at(place))


def all_told(memory):
    return {place: told_at(memory, place) for place in memory.places()}


def size_of(thing):
    return len(thing.fields()) + (3 if thing.sort_of() == "plain" else 2)


def some_things():
    plains = [plain([SEVEN, NOTHING, at(0), HUGE, at(3), NOTHING, SEVEN, at(1)][:many], words)
              for many in range(9) for words in (None, 0, 10**60 - 1)]
    return plains + [weak(NOTHING), weak(at(0)), pair(at(2), SEVEN), pair(NOTHING, NOTHING), pair(at(0), at(0))]


class PutIn(unittest.TestCase):
    def test_each_sort_is_told_as_it_was_put_in(self):
        for thing in some_things():
            for marked in (False, True):
                for serial in (1, 1000, 10**59):
                    memory = Memory(2, 16)
                    self.assertEqual(memory.put_in(thing, serial, marked), 0)
                    self.assertIsInstance(memory.thing_at(0), Thing)
                    self.assertEqual(told_at(memory, 0), told(thing) + (serial, size_of(thing), marked))
                    self.assertEqual(memory.sort_at(0), thing.sort_of())
                    self.assertEqual(memory.thing_at(0).holds(), thing.holds())
                    self.assertEqual(memory.thing_at(0).waits(), thing.waits())
                    self.assertIs(memory.marked_at(0), marked)

    def test_sizes(self):
        for many in range(9):
            memory = Memory(1, 20)
            memory.put_in(plain([NOTHING] * many, None), 1, False)
            self.assertEqual(memory.size_at(0), 3 + many)
        memory = Memory(1, 20)
        self.assertEqual([memory.put_in(weak(NOTHING), 1, False), memory.put_in(pair(NOTHING, NOTHING), 2, False),
                          memory.put_in(plain([], 4), 3, False), memory.put_in(plain([], None), 4, False)], [0, 3, 7, 10])
        self.assertEqual([memory.size_at(place) for place in (0, 3, 7, 10)], [3, 4, 3, 3])

    def test_a_thing_that_just_fits(self):
        for thing in some_things():
            self.assertEqual(Memory(1, size_of(thing)).put_in(thing, 1, False), 0)
            self.assertIsNone(Memory(3, size_of(thing) - 1).put_in(thing, 1, False))

    def test_the_place_is_the_gaps(self):
        memory = Memory(3, 8)
        self.assertEqual(memory.put_in(plain([NOTHING] * 2, None), 1, False), 0)
        self.assertEqual(memory.put_in(plain([NOTHING], None), 2, False), 8)
        self.assertEqual(memory.put_in(weak(NOTHING), 3, False), 5)
        self.assertEqual(memory.put_in(pair(NOTHING, NOTHING), 4, False), 12)
        self.assertEqual(memory.put_in(plain([NOTHING] * 5, None), 5, False), 16)
        self.assertIsNone(memory.put_in(weak(NOTHING), 6, False))
        self.assertEqual(memory.places(), [0, 5, 8, 12, 16])
        memory.take_out(8)
        self.assertIsNone(memory.put_in(plain([NOTHING] * 2, None), 7, False))
        self.assertEqual(memory.put_in(plain([NOTHING], None), 7, False), 8)

    def test_where_there_is_no_gap_nothing_is_changed(self):
        memory = Memory(2, 5)
        memory.put_in(plain([SEVEN], 3), 1, True)
        memory.put_in(pair(at(0), SEVEN), 2, False)
        before = all_told(memory)
        for thing in some_things():
            self.assertIsNone(memory.put_in(thing, 9, True))
            self.assertEqual(all_told(memory), before)
        self.assertEqual((memory.has_gap(1), memory.has_gap(2)), (True, False))

    def test_the_fields_handed_in_are_not_kept(self):
        fields = [SEVEN, NOTHING]
        memory = Memory(1, 8)
        memory.put_in(plain(fields, None), 1, False)
        fields[0] = HUGE
        memory.set_field(0, 1, SEVEN)
        self.assertEqual((memory.thing_at(0).fields(), fields), ([SEVEN, SEVEN], [HUGE, NOTHING]))

    def test_a_thing_put_in_twice_is_two(self):
        thing = plain([NOTHING], 2)
        memory = Memory(1, 8)
        memory.put_in(thing, 1, False)
        memory.put_in(thing, 2, False)
        memory.set_field(0, 0, SEVEN)
        memory.set_words(0, None)
        self.assertEqual(told(memory.thing_at(4)), ("plain", [NOTHING], 2))
        self.assertEqual(told(thing), ("plain", [NOTHING], 2))


class CellByCell(unittest.TestCase):
    def cells(self, memory):
        many, cells = memory.shape()
        return [memory.rooms.read(place) for place in range(many * cells)]

    def test_a_plain_thing(self):
        memory = Memory(1, 7)
        memory.put_in(plain([SEVEN, at(0)], 9), 4, True)
        self.assertEqual(self.cells(memory), [header(0, True, True, 5), 4, ("number", 9), SEVEN, at(0), None, None])
        memory.set_words(0, None)
        memory.set_mark(0, False)
        self.assertEqual(self.cells(memory), [header(0, False, False, 5), 4, NOTHING, SEVEN, at(0), None, None])
        memory.set_words(0, 0)
        self.assertEqual(self.cells(memory)[:3], [header(0, False, True, 5), 4, ("number", 0)])

    def test_a_weak_thing_and_a_pair(self):
        memory = Memory(2, 4)
        memory.put_in(weak(at(4)), 1, False)
        memory.put_in(pair(at(0), SEVEN), 2, True)
        self.assertEqual(self.cells(memory), [header(1, False, False, 3), 1, at(4), None,
                                              header(2, True, False, 4), 2, at(0), SEVEN])
        memory.take_out(4)
        memory.move(0, 1)
        self.assertEqual(self.cells(memory), [None, header(1, False, False, 3), 1, at(4)] + [None] * 4)


class TakeOut(unittest.TestCase):
    def test_its_cells_are_free_and_those_of_others_are_not(self):
        for thing in some_things():
            memory = Memory(1, 6 + size_of(thing))
            memory.put_in(weak(NOTHING), 1, False)
            place = memory.put_in(thing, 2, True)
            memory.put_in(weak(NOTHING), 3, True)
            self.assertFalse(memory.has_gap(1))
            memory.take_out(place)
            self.assertEqual(memory.places(), [0, 3 + size_of(thing)])
            self.assertTrue(memory.has_gap(size_of(thing)))
            self.assertFalse(memory.has_gap(size_of(thing) + 1))
            self.assertEqual(memory.put_in(thing, 4, False), place)

    def test_values_that_name_the_place_stay(self):
        memory = Memory(1, 20)
        memory.put_in(plain([], None), 1, False)
        memory.put_in(plain([at(0), SEVEN], None), 2, False)
        memory.put_in(weak(at(0)), 3, False)
        memory.put_in(pair(at(0), at(0)), 4, False)
        memory.take_out(0)
        self.assertEqual([memory.thing_at(place).fields() for place in memory.places()],
                         [[at(0), SEVEN], [at(0)], [at(0), at(0)]])


class ChangedInPlace(unittest.TestCase):
    def three(self):
        memory = Memory(2, 16)
        memory.put_in(plain([SEVEN, at(5)], 4), 1, False)
        memory.put_in(weak(at(0)), 2, True)
        memory.put_in(pair(at(0), at(5)), 3, False)
        self.assertEqual(memory.places(), [0, 5, 8])
        return memory

    def assert_only(self, memory, before, place, wanted):
        expected = dict(before)
        expected[place] = wanted
        self.assertEqual(all_told(memory), expected)

    def test_marks(self):
        for place in (0, 5, 8):
            for marked in (True, False, False, True):
                memory = self.three()
                before = all_told(memory)
                memory.set_mark(place, marked)
                self.assert_only(memory, before, place, before[place][:5] + (marked,))

    def test_fields(self):
        for place, many in ((0, 2), (5, 1), (8, 2)):
            for number in range(many):
                for value in (NOTHING, SEVEN, HUGE, at(0), at(8)):
                    memory = self.three()
                    before = all_told(memory)
                    memory.set_field(place, number, value)
                    fields = list(before[place][1])
                    fields[number] = value
                    self.assert_only(memory, before, place, before[place][:1] + (fields,) + before[place][2:])

    def test_all_eight_fields(self):
        memory = Memory(1, 11)
        memory.put_in(plain([NOTHING] * 8, 1), 5, True)
        for number in range(8):
            memory.set_field(0, number, ("number", number))
        self.assertEqual(told_at(memory, 0), ("plain", [("number", number) for number in range(8)], 1, 5, 11, True))

    def test_words(self):
        for words in (None, 0, 9, 10**60 - 1, None):
            memory = self.three()
            before = all_told(memory)
            memory.set_words(0, words)
            self.assert_only(memory, before, 0, ("plain", [SEVEN, at(5)], words, 1, 5, False))
        memory = self.three()
        memory.set_mark(0, True)
        memory.set_words(0, None)
        memory.set_words(0, 0)
        self.assertEqual(told_at(memory, 0), ("plain", [SEVEN, at(5)], 0, 1, 5, True))

    def test_words_of_a_thing_that_had_none(self):
        memory = Memory(1, 3)
        memory.put_in(plain([], None), 1, True)
        memory.set_words(0, 3)
        self.assertEqual(told_at(memory, 0), ("plain", [], 3, 1, 3, True))


class Moved(unittest.TestCase):
    def test_onto_cells_that_were_its_own(self):
        for thing in some_things():
            for step in range(1, 12):
                memory = Memory(2, 40)
                memory.put_in(plain([NOTHING] * 8, None), 1, False)
                memory.put_in(plain([NOTHING] * 8, None), 2, False)
                place = memory.put_in(thing, 3, True)
                memory.take_out(11)
                before = told_at(memory, place)
                memory.move(place, place - step)
                self.assertEqual(memory.places(), [0, place - step])
                self.assertEqual(told_at(memory, place - step), before)
                memory.move(place - step, place)
                self.assertEqual(told_at(memory, place), before)
                memory.move(place, place)
                self.assertEqual((memory.places(), told_at(memory, place)), ([0, place], before))

    def test_the_old_cells_are_free_and_the_new_ones_are_not(self):
        memory = Memory(1, 10)
        memory.put_in(plain([], None), 1, False)
        memory.put_in(plain([SEVEN], None), 2, False)
        memory.take_out(0)
        memory.move(3, 0)
        self.assertFalse(memory.has_gap(7))
        self.assertEqual(memory.put_in(plain([NOTHING] * 3, None), 3, False), 4)
        self.assertFalse(memory.has_gap(1))

    def test_nothing_else_is_changed(self):
        memory = Memory(2, 12)
        memory.put_in(plain([], None), 1, False)
        memory.put_in(plain([at(3)], 5), 2, True)
        memory.put_in(weak(at(3)), 3, False)
        memory.put_in(pair(at(3), at(0)), 4, True)
        memory.take_out(0)
        before = all_told(memory)
        memory.move(3, 1)
        moved = before.pop(3)
        after = all_told(memory)
        self.assertEqual(after.pop(1), moved)
        self.assertEqual(after, before)

    def test_in_the_last_room(self):
        memory = Memory(3, 6)
        for serial in (1, 2, 3):
            memory.put_in(plain([NOTHING], None), serial, False)
        memory.move(12, 14)
        self.assertEqual((memory.places(), memory.places_in(2), memory.serial_at(14)), ([0, 6, 14], [14], 3))


class WhatIsThere(unittest.TestCase):
    def test_at_first(self):
        for many, cells in ((1, 1), (3, 4), (100, 1000)):
            memory = Memory(many, cells)
            self.assertEqual((memory.places(), memory.shape()), ([], (many, cells)))
            self.assertEqual([memory.places_in(room) for room in range(many)], [[]] * many)
            self.assertIs(memory.has_gap(cells), True)
            self.assertIs(memory.has_gap(cells + 1), False)
            self.assertIs(memory.has_gap(1), True)

    def test_places_rise_whatever_came_first(self):
        memory = Memory(2, 9)
        for serial in range(1, 7):
            memory.put_in(weak(NOTHING), serial, False)
        for place in (3, 12, 0):
            memory.take_out(place)
        memory.put_in(weak(NOTHING), 7, False)
        memory.put_in(weak(NOTHING), 8, False)
        self.assertEqual(memory.places(), [0, 3, 6, 9, 15])
        self.assertEqual((memory.places_in(0), memory.places_in(1)), ([0, 3, 6], [9, 15]))
        memory.take_out(6)
        memory.move(0, 6)
        self.assertEqual((memory.places(), memory.places_in(0)), ([3, 6, 9, 15], [3, 6]))
        self.assertEqual([memory.serial_at(place) for place in memory.places()], [8, 7, 4, 6])

    def test_lists_told_are_the_askers_own(self):
        memory = Memory(2, 9)
        memory.put_in(plain([SEVEN], 2), 1, False)
        before = all_told(memory)
        memory.places().clear()
        memory.places().append(77)
        memory.places_in(0).clear()
        memory.places_in(1).append(77)
        memory.thing_at(0).fields()[0] = NOTHING
        memory.thing_at(0).holds().append(1)
        self.assertEqual(all_told(memory), before)
        self.assertEqual((memory.places_in(0), memory.places_in(1)), ([0], []))

    def test_what_was_told_stays(self):
        memory = Memory(1, 9)
        memory.put_in(plain([SEVEN], 2), 1, False)
        thing, places = memory.thing_at(0), memory.places()
        memory.set_field(0, 0, NOTHING)
        memory.set_words(0, None)
        self.assertEqual((told(thing), places), (("plain", [SEVEN], 2), [0]))
        memory.take_out(0)
        self.assertEqual((told(thing), places), (("plain", [SEVEN], 2), [0]))

    def test_kinds(self):
        memory = Memory(1, 9)
        memory.put_in(plain([SEVEN], 2), 1, False)
        self.assertEqual([type(part) for part in (memory.places(), memory.places_in(0), memory.shape())], [list, list, tuple])
        self.assertEqual([type(part) for part in (memory.serial_at(0), memory.size_at(0), memory.sort_at(0))], [int, int, str])

    def test_many_deeds_beside_a_plain_record(self):
        chance = random.Random(39)
        for turn in range(40):
            many, cells = chance.randint(1, 4), chance.randint(3, 20)
            memory, record = Memory(many, cells), {}
            for serial in range(1, 80):
                self.do_something(chance, memory, record, serial, cells)
                self.assertEqual(all_told(memory), record)
                taken = [cell for place in record for cell in range(place, place + record[place][4])]
                self.assertEqual(len(taken), len(set(taken)))
                self.assertTrue(all(place // cells == (place + record[place][4] - 1) // cells for place in record))

    def do_something(self, chance, memory, record, serial, cells):
        what = chance.choice(("in", "in", "in", "out", "mark", "field", "words", "slide"))
        if what == "in":
            thing, marked = chance.choice(some_things()), chance.choice((True, False))
            gap = memory.has_gap(size_of(thing))
            place = memory.put_in(thing, serial, marked)
            self.assertEqual(place is not None, gap)
            if gap:
                record[place] = told(thing) + (serial, size_of(thing), marked)
        elif record:
            place = chance.choice(sorted(record))
            sort, fields, words, serial, size, marked = record[place]
            if what == "out":
                memory.take_out(place)
                del record[place]
            elif what == "mark":
                memory.set_mark(place, not marked)
                record[place] = (sort, fields, words, serial, size, not marked)
            elif what == "field" and fields:
                number = chance.randrange(len(fields))
                memory.set_field(place, number, ("thing", serial))
                fields[number] = ("thing", serial)
            elif what == "words" and sort == "plain":
                memory.set_words(place, serial)
                record[place] = (sort, fields, serial, serial, size, marked)
            elif what == "slide":
                ends = [other + record[other][4] for other in record if other < place]
                where = max([place // cells * cells] + ends)
                memory.move(place, where)
                record[where] = record.pop(place)


if __name__ == "__main__":
    unittest.main()
