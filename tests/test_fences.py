import random
import unittest

from heapsafe.colours import Marking
from heapsafe.fences import Fence, fence_of
from heapsafe.keeping import is_closed
from heapsafe.memory import Memory
from heapsafe.things import pair, plain, weak
from helping import NOTHING, SEVEN, at, marked, told_things

VALUES = (NOTHING, SEVEN, ("number", 0), at(0), at(5), at(10**59))


class WhatTheyTell(unittest.TestCase):
    def test_new(self):
        fence = fence_of("new")
        self.assertIsInstance(fence, Fence)
        self.assertEqual(fence.word(), "new")
        self.assertIs(fence.marks_new(), False)
        self.assertIs(fence.shades_look(), False)
        self.assertIs(fence.shades_open(), True)

    def test_old(self):
        fence = fence_of("old")
        self.assertIsInstance(fence, Fence)
        self.assertEqual(fence.word(), "old")
        self.assertIs(fence.marks_new(), True)
        self.assertIs(fence.shades_look(), True)
        self.assertIs(fence.shades_open(), False)

    def test_what_a_put_shades(self):
        for was in VALUES:
            for becomes in VALUES:
                self.assertEqual(fence_of("new").put_shades(was, becomes), [becomes[1]] if becomes[0] == "thing" else [])
                self.assertEqual(fence_of("old").put_shades(was, becomes), [was[1]] if was[0] == "thing" else [])

    def test_lists_told_are_the_askers_own(self):
        for word in ("new", "old"):
            fence = fence_of(word)
            fence.put_shades(at(3), at(3)).append(9)
            fence.put_shades(NOTHING, SEVEN).append(9)
            self.assertEqual((fence.put_shades(at(3), at(3)), fence.put_shades(NOTHING, SEVEN)), ([3], []))


class Writer:
    """Writes by chance into a memory that is being marked, and shades as its fence tells."""

    def __init__(self, chance, word):
        self.chance = chance
        self.memory = Memory(60, 5)
        self.marking = Marking(self.memory)
        self.fence = fence_of(word)
        self.roots = []
        self.serial = 0
        self.is_marking = False

    def make(self):
        named = self.chance.choice([NOTHING] + self.roots)
        choices = [plain([NOTHING, NOTHING], None)]
        if named != NOTHING:
            choices += [weak(named), pair(named, self.chance.choice(self.roots + [SEVEN]))]
        self.serial += 1
        marks = self.is_marking and self.fence.marks_new()
        place = self.memory.put_in(self.chance.choice(choices), self.serial, marks)
        self.roots.append(at(place))

    def write(self):
        place = self.chance.choice(self.roots)[1]
        if self.memory.sort_at(place) == "plain":
            number, becomes = self.chance.randint(0, 1), self.chance.choice([NOTHING, SEVEN] + self.roots * 2)
            was = self.memory.thing_at(place).fields()[number]
            self.memory.set_field(place, number, becomes)
            if self.is_marking:
                for shaded in self.fence.put_shades(was, becomes):
                    self.marking.shade(shaded)

    def read(self):
        place = self.chance.choice(self.roots)[1]
        thing = self.memory.thing_at(place)
        value = self.chance.choice(thing.fields()[:2])
        if thing.sort_of() == "pair":
            value = thing.fields()[1] if thing.fields()[0] in self.roots else NOTHING
        if value[0] == "thing":
            self.roots.append(value)
            if thing.sort_of() == "weak" and self.is_marking and self.fence.shades_look():
                self.marking.shade(value[1])

    def forget(self):
        if len(self.roots) > 1:
            self.roots.pop(self.chance.randrange(len(self.roots)))

    def deed(self):
        if not self.roots or (self.serial < 55 and self.chance.random() < 0.2):
            return self.make()
        return self.chance.choice((self.write, self.write, self.read, self.read, self.forget, self.forget))()

    def begin(self):
        self.is_marking = True
        for value in self.roots:
            self.marking.shade(value[1])

    def steps(self):
        for step in range(self.chance.randint(0, 2)):
            if self.marking.grey():
                self.marking.step()

    def open_places(self):
        return sorted({value[1] for value in self.roots})


class WhileMarking(unittest.TestCase):
    def runs_of(self, word, seed):
        for turn in range(40):
            writer = Writer(random.Random(f"{seed} {turn}"), word)
            for number in range(25):
                writer.deed()
            writer.begin()
            for number in range(40):
                yield writer
                writer.deed()
                writer.steps()
            yield writer

    def assert_closed_with_all_open(self, memory, writer):
        told = marked(memory)
        self.assertTrue(is_closed(told_things(memory), told))
        self.assertLessEqual(set(writer.open_places()), set(told))

    def test_under_new_no_black_plain_thing_names_a_white_one(self):
        for writer in self.runs_of("new", "a"):
            for place in writer.memory.places():
                if writer.marking.colour_of(place) == "black":
                    colours = [writer.marking.colour_of(name) for name in writer.memory.thing_at(place).holds()]
                    self.assertNotIn("white", colours)

    def test_under_old_what_would_be_marked_is_closed_and_has_all_that_is_open(self):
        for writer in self.runs_of("old", "b"):
            memory = self.copy_of(writer)
            marking = Marking(memory)
            for place in writer.marking.grey():
                marking.shade(place)
            marking.drain()
            self.assert_closed_with_all_open(memory, writer)

    def copy_of(self, writer):
        """The same things at the same places, the black ones marked."""
        copied = Memory(*writer.memory.shape())
        for place in writer.memory.places():
            is_black = writer.marking.colour_of(place) == "black"
            copied.put_in(writer.memory.thing_at(place), writer.memory.serial_at(place), is_black)
        self.assertEqual(told_things(copied), told_things(writer.memory))
        return copied

    def test_when_all_is_drained_what_is_marked_is_closed_and_has_all_that_is_open(self):
        for word in ("new", "old"):
            last = None
            for writer in self.runs_of(word, "c"):
                if last is not None and last is not writer:
                    self.drain_at_the_turn(last)
                last = writer
            self.drain_at_the_turn(last)

    def drain_at_the_turn(self, writer):
        if writer.fence.shades_open():
            for place in writer.open_places():
                writer.marking.shade(place)
        writer.marking.drain()
        self.assert_closed_with_all_open(writer.memory, writer)


if __name__ == "__main__":
    unittest.main()
