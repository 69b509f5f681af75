import random
import unittest

from heapsafe.colours import Marking
from heapsafe.keeping import least_closed
from heapsafe.things import pair, plain, weak
from helping import NOTHING, SEVEN, at, marked, memory_of, random_memory, told_things


class Colours(unittest.TestCase):
    def test_white_grey_and_black(self):
        memory = memory_of(plain([], None), plain([], None))
        marking = Marking(memory)
        self.assertEqual((marking.colour_of(0), marking.grey()), ("white", []))
        marking.shade(0)
        self.assertEqual((marking.colour_of(0), marking.colour_of(20), marking.grey()), ("grey", "white", [0]))
        self.assertIs(memory.marked_at(0), True)
        self.assertIs(memory.marked_at(20), False)
        self.assertEqual(marking.step(), 0)
        self.assertEqual((marking.colour_of(0), marking.colour_of(20), marking.grey()), ("black", "white", []))
        self.assertIs(memory.marked_at(0), True)

    def test_marked_and_not_in_the_row_is_black(self):
        memory = memory_of(plain([], None), plain([], None))
        marking = Marking(memory)
        memory.set_mark(20, True)
        self.assertEqual((marking.colour_of(0), marking.colour_of(20)), ("white", "black"))

    def test_shaded_twice_stands_once_in_the_row(self):
        memory = memory_of(plain([], None), plain([], None))
        marking = Marking(memory)
        for place in (20, 0, 20, 20, 0):
            marking.shade(place)
        self.assertEqual(marking.grey(), [20, 0])

    def test_a_black_one_is_not_shaded_again(self):
        memory = memory_of(plain([], None), weak(NOTHING), pair(NOTHING, NOTHING))
        marking = Marking(memory)
        for place in (0, 20, 40):
            marking.shade(place)
            marking.step()
            marking.shade(place)
            self.assertEqual((marking.grey(), marking.colour_of(place)), ([], "black"))

    def test_all_sorts_can_be_shaded(self):
        memory = memory_of(plain([], None), weak(NOTHING), pair(NOTHING, NOTHING))
        marking = Marking(memory)
        for place in (40, 0, 20):
            marking.shade(place)
        self.assertEqual([marking.colour_of(place) for place in (0, 20, 40)], ["grey"] * 3)

    def test_shading_changes_the_mark_alone(self):
        memory = memory_of(plain([SEVEN, at(20)], 4), weak(at(0)))
        before = told_things(memory)
        marking = Marking(memory)
        marking.shade(0)
        marking.shade(20)
        self.assertEqual(told_things(memory), before)


class Steps(unittest.TestCase):
    def test_first_in_first_out(self):
        memory = memory_of(*[plain([], None)] * 4)
        marking = Marking(memory)
        for place in (40, 0, 60, 20):
            marking.shade(place)
        self.assertEqual(marking.step(), 40)
        self.assertEqual(marking.grey(), [0, 60, 20])
        self.assertEqual([marking.step(), marking.step(), marking.step()], [0, 60, 20])
        self.assertEqual(marking.grey(), [])

    def test_what_a_thing_holds_is_shaded_in_turn_behind_the_others(self):
        memory = memory_of(plain([at(60), SEVEN, at(20), at(60), NOTHING, at(0), at(40)], None), *[plain([], None)] * 4)
        marking = Marking(memory)
        marking.shade(0)
        marking.shade(80)
        self.assertEqual(marking.step(), 0)
        self.assertEqual(marking.grey(), [80, 60, 20, 40])
        self.assertEqual([marking.colour_of(place) for place in (0, 20, 40, 60, 80)], ["black"] + ["grey"] * 4)

    def test_only_the_one_step_is_done(self):
        memory = memory_of(plain([at(20)], None), plain([at(40)], None), plain([], None))
        marking = Marking(memory)
        marking.shade(0)
        marking.step()
        self.assertEqual([marking.colour_of(place) for place in (0, 20, 40)], ["black", "grey", "white"])
        self.assertEqual(marking.step(), 20)
        self.assertEqual([marking.colour_of(place) for place in (0, 20, 40)], ["black", "black", "grey"])

    def test_a_thing_that_names_itself(self):
        memory = memory_of(plain([at(0), at(0)], None))
        marking = Marking(memory)
        marking.shade(0)
        self.assertEqual((marking.step(), marking.grey(), marking.colour_of(0)), (0, [], "black"))

    def test_weak_things_and_pairs_hold_nothing(self):
        memory = memory_of(weak(at(40)), pair(at(40), at(40)), plain([], None))
        marking = Marking(memory)
        marking.shade(0)
        marking.shade(20)
        self.assertEqual([marking.step(), marking.step()], [0, 20])
        self.assertEqual((marking.grey(), marking.colour_of(40)), ([], "white"))

    def test_a_pair_does_not_shade_its_value_by_a_step_though_its_key_is_marked(self):
        memory = memory_of(pair(at(20), at(40)), plain([], None), plain([], None))
        marking = Marking(memory)
        marking.shade(20)
        marking.shade(0)
        self.assertEqual([marking.step(), marking.step()], [20, 0])
        self.assertEqual((marking.grey(), marking.colour_of(40)), ([], "white"))


class Drained(unittest.TestCase):
    def assert_drained(self, things, shaded, wanted):
        memory = memory_of(*things)
        before = told_things(memory)
        marking = Marking(memory)
        for place in shaded:
            marking.shade(place)
        marking.drain()
        self.assertEqual(marked(memory), wanted)
        self.assertEqual(marking.grey(), [])
        marking.drain()
        self.assertEqual((marked(memory), marking.grey()), (wanted, []))
        self.assertEqual(told_things(memory), before)

    def test_nothing_marked(self):
        self.assert_drained([plain([at(0)], None), pair(at(0), at(0))], [], [])

    def test_over_many_fields(self):
        self.assert_drained([plain([at(20), at(60)], None), plain([at(40)], None), plain([], None), plain([at(0)], None),
                             plain([], None)], [0], [0, 20, 40, 60])

    def test_pairs_with_marked_and_unmarked_keys(self):
        things = [pair(at(20), at(40)), plain([], None), plain([at(60)], None), plain([], None)]
        self.assert_drained(things, [0], [0])
        self.assert_drained(things, [20], [20])
        self.assert_drained(things, [0, 20], [0, 20, 40, 60])
        self.assert_drained(things, [20, 0], [0, 20, 40, 60])

    def test_keys_that_are_marked_late(self):
        # 0 holds the pair and a long way to its key; behind its value comes the key of another pair.
        things = [plain([at(20), at(60), at(120)], None), pair(at(40), at(100)), plain([], None), plain([at(80)], None),
                  plain([at(40)], None), plain([at(140)], None), pair(at(140), at(160)), plain([], None), plain([], None)]
        self.assert_drained(things, [0], [number * 20 for number in range(9)])

    def test_chains_of_pairs_in_both_orders(self):
        many = 12
        for order in (range(many), reversed(range(many))):
            chain = list(order)
            keys = [at((many + number) * 20) for number in range(many + 1)]
            pairs = [pair(keys[number], keys[number + 1]) for number in chain]
            things = pairs + [plain([], None)] * (many + 1)
            shaded = [number * 20 for number in range(many)]
            self.assert_drained(things, shaded + [keys[0][1]], [number * 20 for number in range(2 * many + 1)])
            self.assert_drained(things, shaded + [keys[5][1]], shaded + [key[1] for key in keys[5:]])

    def test_keys_that_are_numbers_or_nothing(self):
        self.assert_drained([pair(SEVEN, at(40)), pair(NOTHING, at(40)), plain([], None)], [0, 20], [0, 20])

    def test_values_that_are_numbers_or_nothing(self):
        self.assert_drained([pair(at(0), SEVEN), pair(at(0), NOTHING), plain([], None)], [0, 20], [0, 20])

    def test_pairs_that_name_themselves(self):
        self.assert_drained([pair(at(0), at(20)), plain([], None)], [0], [0, 20])
        self.assert_drained([pair(at(0), at(0)), plain([], None)], [0], [0])
        self.assert_drained([pair(at(20), at(0)), pair(at(0), at(20))], [0], [0])

    def test_pairs_that_wait_for_one_another(self):
        things = [pair(at(40), at(60)), pair(at(60), at(40)), plain([], None), plain([], None)]
        self.assert_drained(things, [0, 20], [0, 20])
        self.assert_drained(things, [0, 20, 60], [0, 20, 40, 60])

    def test_weak_things_bring_nothing(self):
        self.assert_drained([weak(at(20)), plain([], None)], [0], [0])

    def test_what_is_black_already_counts(self):
        memory = memory_of(pair(at(20), at(40)), plain([], None), plain([], None))
        marking = Marking(memory)
        memory.set_mark(0, True)
        memory.set_mark(20, True)
        marking.drain()
        self.assertEqual([marking.colour_of(place) for place in (0, 20, 40)], ["black"] * 3)

    def test_it_is_the_least_closed_set(self):
        chance = random.Random(42)
        for turn in range(300):
            memory = random_memory(chance, chance.randint(1, 14))
            marking = Marking(memory)
            begin = sorted(chance.sample(memory.places(), chance.randint(0, min(3, len(memory.places())))))
            for place in chance.sample(begin, len(begin)):
                marking.shade(place)
            for step in range(chance.randint(0, 4)):
                if marking.grey():
                    marking.step()
            marking.drain()
            self.assertEqual(marked(memory), least_closed(told_things(memory), begin))
            self.assertEqual(marking.grey(), [])


class NothingIsShared(unittest.TestCase):
    def test_the_row_told(self):
        memory = memory_of(plain([], None), plain([], None))
        marking = Marking(memory)
        marking.shade(0)
        told = marking.grey()
        told.append(20)
        told.pop(0)
        self.assertEqual((marking.grey(), marking.colour_of(0), marking.colour_of(20)), ([0], "grey", "white"))
        told = marking.grey()
        marking.step()
        self.assertEqual(told, [0])

    def test_two_memories(self):
        one, other = memory_of(plain([], None)), memory_of(plain([], None))
        first, second = Marking(one), Marking(other)
        first.shade(0)
        self.assertEqual((second.grey(), second.colour_of(0)), ([], "white"))

    def test_kinds(self):
        marking = Marking(memory_of(plain([], None)))
        marking.shade(0)
        self.assertEqual([type(part) for part in (marking.grey(), marking.colour_of(0), marking.step())], [list, str, int])


if __name__ == "__main__":
    unittest.main()
