import random
import unittest

from heapsafe.colours import Marking
from heapsafe.keeping import whole_turn
from heapsafe.things import pair, plain, weak
from heapsafe.turn import turn
from helping import NOTHING, SEVEN, at, marked, memory_of, random_memory, told_things


class TurnTest(unittest.TestCase):
    def turned(self, things, shaded, heard=()):
        """The memory, the row told and the row to be heard, behind a turn with some places shaded ahead."""
        memory = memory_of(*things)
        marking = Marking(memory)
        for place in shaded:
            marking.shade(place)
        row = list(heard)
        told = turn(memory, marking, row)
        self.assertEqual(marking.grey(), [])
        return memory, told, row


class WrittenOut(TurnTest):
    def test_an_empty_memory(self):
        memory, told, heard = self.turned([], [])
        self.assertEqual((told, heard), (("turn", [], [], [], [], [], [], []), []))

    def test_serials_not_places_and_all_lists_rising(self):
        # Five things at 0 to 80 have the serials 5 to 1.
        things = [plain([at(40)], None), plain([], None), plain([at(60)], None), plain([], None), plain([], None)]
        memory, told, heard = self.turned(things, [0])
        self.assertEqual(told, ("turn", [2, 3, 5], [], [], [], [2, 3, 5], [], []))
        self.assertEqual((marked(memory), heard), ([0, 40, 60], []))

    def test_all_is_drained_first(self):
        memory, told, heard = self.turned([plain([at(20), at(40)], None), pair(at(40), at(60)), plain([], None),
                                           plain([], None)], [0])
        self.assertEqual(told, ("turn", [1, 2, 3, 4], [], [], [], [1, 2, 3, 4], [], []))

    def test_blind_weak_things_and_pairs(self):
        # Serials: 0 has 6, 20 has 5, 40 has 4, 60 has 3, 80 has 2, 100 has 1.
        things = [weak(at(100)), weak(at(60)), pair(at(100), at(60)), plain([], None), pair(at(60), SEVEN), plain([], None)]
        memory, told, heard = self.turned(things, [0, 20, 40, 60, 80])
        self.assertEqual(told, ("turn", [2, 3, 4, 5, 6], [6], [4], [], [2, 3, 4, 5, 6], [], []))
        self.assertEqual([memory.thing_at(place).fields() for place in (0, 20, 40, 80)],
                         [[NOTHING], [at(60)], [NOTHING, NOTHING], [at(60), SEVEN]])

    def test_several_blind_ones_rise(self):
        things = [weak(at(120)), weak(at(120)), weak(at(120)), pair(at(120), SEVEN), pair(at(120), at(0)),
                  pair(at(120), at(120)), plain([], None)]
        memory, told, heard = self.turned(things, [0, 20, 40, 60, 80, 100])
        self.assertEqual(told, ("turn", [2, 3, 4, 5, 6, 7], [5, 6, 7], [2, 3, 4], [], [2, 3, 4, 5, 6, 7], [], []))

    def test_unmarked_ones_are_not_cleared(self):
        things = [weak(at(40)), pair(at(40), at(40)), plain([], None)]
        memory, told, heard = self.turned(things, [])
        self.assertEqual(told, ("turn", [], [], [], [], [], [], []))
        self.assertEqual(memory.thing_at(0).fields(), [at(40)])
        self.assertEqual(memory.thing_at(20).fields(), [at(40), at(40)])

    def test_what_names_a_thing_that_was_taken_out_is_blind(self):
        memory = memory_of(weak(at(40)), pair(at(40), SEVEN), plain([], None))
        memory.set_mark(40, True)
        memory.take_out(40)
        marking = Marking(memory)
        marking.shade(0)
        marking.shade(20)
        self.assertEqual(turn(memory, marking, []), ("turn", [2, 3], [3], [2], [], [2, 3], [], []))

    def test_keys_and_fields_without_things_are_not_blind(self):
        things = [weak(NOTHING), pair(NOTHING, at(60)), pair(SEVEN, at(60)), plain([], None)]
        memory, told, heard = self.turned(things, [0, 20, 40])
        self.assertEqual(told, ("turn", [2, 3, 4], [], [], [], [2, 3, 4], [], []))
        self.assertEqual(memory.thing_at(20).fields(), [NOTHING, at(60)])


class LastWords(TurnTest):
    def test_due_by_rising_serials(self):
        things = [plain([], 10), plain([], 11), plain([], 12), plain([], None), plain([], 0)]
        memory, told, heard = self.turned(things, [20])
        self.assertEqual(told, ("turn", [4], [], [], [1, 3, 5], [1, 3, 4, 5], [], []))
        self.assertEqual(heard, [(80, 0), (40, 12), (0, 10)])
        self.assertEqual([memory.thing_at(place).words() for place in (0, 20, 40, 60, 80)], [None, 11, None, None, None])
        self.assertEqual(marked(memory), [0, 20, 40, 80])

    def test_what_was_in_the_row_stays_ahead(self):
        things = [plain([], 5), weak(NOTHING), plain([], None)]
        memory, told, heard = self.turned(things, [20, 40], [(40, 8), (20, 3), (40, 9)])
        self.assertEqual(heard, [(40, 8), (20, 3), (40, 9), (0, 5)])
        self.assertEqual(told, ("turn", [1, 2], [], [], [3], [1, 2, 3], [], []))

    def test_the_row_as_it_is_handed_in_is_not_looked_at(self):
        things = [plain([], None), plain([], 4)]
        memory, told, heard = self.turned(things, [], [(0, 8), (20, 9)])
        self.assertEqual(told, ("turn", [], [], [], [1], [1], [], []))
        self.assertEqual((heard, marked(memory)), ([(0, 8), (20, 9), (20, 4)], [20]))

    def test_the_list_handed_in_is_the_one_that_is_changed(self):
        memory = memory_of(plain([], 5))
        heard = [(0, 1)]
        turn(memory, Marking(memory), heard)
        self.assertEqual(heard, [(0, 1), (0, 5)])

    def test_due_ones_bring_others_back(self):
        things = [plain([at(20)], 5), plain([at(40)], None), plain([], None), plain([], None)]
        memory, told, heard = self.turned(things, [])
        self.assertEqual(told, ("turn", [], [], [], [4], [2, 3, 4], [], []))
        self.assertEqual(marked(memory), [0, 20, 40])

    def test_cleared_and_dropped_though_their_things_come_back(self):
        things = [weak(at(40)), pair(at(40), at(60)), plain([], 5), plain([], None)]
        memory, told, heard = self.turned(things, [0, 20])
        self.assertEqual(told, ("turn", [3, 4], [4], [3], [2], [2, 3, 4], [], []))
        self.assertEqual((memory.thing_at(0).fields(), memory.thing_at(20).fields()), ([NOTHING], [NOTHING, NOTHING]))

    def test_those_that_go_blind_only_then(self):
        # The due one holds a weak thing and a pair; what they name stays away.
        things = [plain([at(20), at(40)], 5), weak(at(60)), pair(at(60), at(0)), plain([], None)]
        memory, told, heard = self.turned(things, [])
        self.assertEqual(told, ("turn", [], [], [], [4], [2, 3, 4], [3], [2]))
        self.assertEqual((memory.thing_at(20).fields(), memory.thing_at(40).fields()), ([NOTHING], [NOTHING, NOTHING]))
        self.assertEqual(marked(memory), [0, 20, 40])

    def test_a_due_ones_pair_brings_its_value_by_another_due_one(self):
        things = [plain([at(20)], 5), pair(at(40), at(60)), plain([], 0), plain([], None)]
        memory, told, heard = self.turned(things, [])
        self.assertEqual(told, ("turn", [], [], [], [2, 4], [1, 2, 3, 4], [], []))
        self.assertEqual(heard, [(40, 0), (0, 5)])

    def test_a_due_one_that_another_due_one_holds(self):
        things = [plain([at(20)], 5), plain([at(0)], 6)]
        memory, told, heard = self.turned(things, [])
        self.assertEqual((told, heard), (("turn", [], [], [], [1, 2], [1, 2], [], []), [(20, 6), (0, 5)]))

    def test_what_was_marked_keeps_its_words(self):
        memory, told, heard = self.turned([plain([at(20)], 5), plain([], 0)], [0])
        self.assertEqual((told, heard), (("turn", [1, 2], [], [], [], [1, 2], [], []), []))
        self.assertEqual((memory.thing_at(0).words(), memory.thing_at(20).words()), (5, 0))


class AsAPlainHeapTells(unittest.TestCase):
    """A turn of a memory in which just what is open is shaded is the whole turn of the plain heap of the same things."""

    class Told:
        def __init__(self, memory, roots):
            self.memory = memory
            self.open_ones = roots

        def by_serial(self, value):
            return ("thing", self.memory.serial_at(value[1])) if value[0] == "thing" else value

        def things(self):
            return {self.memory.serial_at(place): (kind, [self.by_serial(value) for value in fields], words)
                    for place, (kind, fields, words) in told_things(self.memory).items()}

        def roots(self):
            return {str(number): self.by_serial(at(place)) for number, place in enumerate(self.open_ones)}

        def heard_row(self):
            return []

    def test_many(self):
        chance = random.Random(45)
        for number in range(300):
            memory = random_memory(chance, chance.randint(1, 14))
            for place in memory.places():
                if memory.sort_at(place) == "plain" and chance.random() < 0.4:
                    memory.set_words(place, chance.randint(0, 9))
            begin = chance.sample(memory.places(), chance.randint(0, min(3, len(memory.places()))))
            wanted = whole_turn(self.Told(memory, begin))
            marking = Marking(memory)
            for place in begin:
                marking.shade(place)
            told = turn(memory, marking, [])
            self.assertEqual(told, ("turn",) + wanted)
            self.assertIs(type(told), tuple)
            self.assertTrue(all(type(part) is list for part in told[1:]))
            self.assertEqual(sorted(memory.serial_at(place) for place in marked(memory)), told[5])

    def test_the_lists_told_are_ones_own(self):
        memory = memory_of(plain([], 4), plain([], None))
        marking = Marking(memory)
        marking.shade(20)
        told = turn(memory, marking, [])
        for part in told[1:]:
            part.append(99)
        self.assertEqual(told, ("turn", [1, 99], [99], [99], [2, 99], [1, 2, 99], [99], [99]))
        self.assertEqual(marked(memory), [0, 20])


if __name__ == "__main__":
    unittest.main()
