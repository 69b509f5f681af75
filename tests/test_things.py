import unittest

from heapsafe.things import Thing, pair, plain, weak

NOTHING = ("nothing",)
SEVEN = ("number", 7)
NOUGHT = ("number", 0)
HUGE = ("number", 10**60 - 1)
ONE = ("thing", 1)
TWO = ("thing", 2)
AT_NOUGHT = ("thing", 0)
VALUES = (NOTHING, SEVEN, NOUGHT, HUGE, ONE, TWO, AT_NOUGHT)


def mixed(many):
    return [VALUES[at % len(VALUES)] for at in range(many)]


def told(thing):
    return (thing.sort_of(), thing.fields(), thing.holds(), thing.waits(), thing.words())


class PlainThings(unittest.TestCase):
    def test_from_no_field_to_eight(self):
        for many in range(9):
            thing = plain(mixed(many), None)
            self.assertIsInstance(thing, Thing)
            self.assertEqual(thing.sort_of(), "plain")
            self.assertEqual(thing.fields(), mixed(many))
            self.assertEqual(thing.waits(), [])
            self.assertIsNone(thing.words())

    def test_each_sort_of_value_in_each_field(self):
        for many in range(1, 9):
            for at in range(many):
                for value in VALUES:
                    fields = [NOTHING] * many
                    fields[at] = value
                    thing = plain(fields, None)
                    self.assertEqual(thing.fields(), fields)
                    self.assertEqual(thing.holds(), [value[1]] if value[0] == "thing" else [])

    def test_holds_field_by_field_as_often_as_named(self):
        self.assertEqual(plain([], None).holds(), [])
        self.assertEqual(plain([NOTHING, SEVEN], None).holds(), [])
        self.assertEqual(plain([TWO, NOTHING, ONE, SEVEN, TWO, AT_NOUGHT], None).holds(), [2, 1, 2, 0])
        self.assertEqual(plain([ONE] * 8, 3).holds(), [1] * 8)

    def test_a_number_is_not_held(self):
        self.assertEqual(plain([("number", 1), ("number", 2)], 1).holds(), [])

    def test_last_words(self):
        for words in (None, 0, 1, 7, 10**60 - 1):
            thing = plain([ONE], words)
            self.assertEqual(thing.words(), words)
            self.assertIs(type(thing.words()), type(words))
            self.assertEqual(thing.holds(), [1])


class WeakThings(unittest.TestCase):
    def test_all_that_they_tell(self):
        for value in (NOTHING, ONE, AT_NOUGHT, ("thing", 10**59)):
            thing = weak(value)
            self.assertIsInstance(thing, Thing)
            self.assertEqual(told(thing), ("weak", [value], [], [], None))


class Pairs(unittest.TestCase):
    def test_a_key_that_is_a_thing_waits(self):
        for value in VALUES:
            thing = pair(AT_NOUGHT, value)
            self.assertIsInstance(thing, Thing)
            self.assertEqual(told(thing), ("pair", [AT_NOUGHT, value], [], [(0, value)], None))
            self.assertEqual(told(pair(TWO, value)), ("pair", [TWO, value], [], [(2, value)], None))

    def test_a_key_that_is_nothing_does_not(self):
        for value in VALUES:
            self.assertEqual(told(pair(NOTHING, value)), ("pair", [NOTHING, value], [], [], None))

    def test_a_key_that_is_a_number_does_not(self):
        self.assertEqual(pair(SEVEN, ONE).waits(), [])

    def test_key_and_value_are_not_taken_for_one_another(self):
        self.assertEqual(pair(ONE, TWO).waits(), [(1, TWO)])
        self.assertEqual(pair(TWO, ONE).waits(), [(2, ONE)])


class ChangedThings(unittest.TestCase):
    def test_with_field_changes_the_one_field(self):
        for many in range(1, 9):
            for at in range(many):
                for value in VALUES:
                    first = plain(mixed(many), 5)
                    before = told(first)
                    changed = first.with_field(at, value)
                    wanted = mixed(many)
                    wanted[at] = value
                    self.assertIsInstance(changed, Thing)
                    self.assertEqual((changed.sort_of(), changed.fields(), changed.words()), ("plain", wanted, 5))
                    self.assertEqual(changed.holds(), [value[1] for value in wanted if value[0] == "thing"])
                    self.assertEqual(told(first), before)

    def test_with_words_changes_the_words_alone(self):
        for was in (None, 0, 4):
            for becomes in (None, 0, 9, 10**59):
                first = plain([ONE, SEVEN], was)
                changed = first.with_words(becomes)
                self.assertEqual(told(changed), ("plain", [ONE, SEVEN], [1], [], becomes))
                self.assertEqual(told(first), ("plain", [ONE, SEVEN], [1], [], was))

    def test_changed_ones_can_be_changed_again(self):
        thing = plain([NOTHING, NOTHING], None).with_field(0, ONE).with_words(3).with_field(1, TWO).with_field(0, SEVEN)
        self.assertEqual(told(thing), ("plain", [SEVEN, TWO], [2], [], 3))


class NothingIsShared(unittest.TestCase):
    def test_the_list_handed_in(self):
        fields = [ONE, SEVEN]
        thing = plain(fields, None)
        fields[0] = TWO
        fields.append(NOTHING)
        self.assertEqual(told(thing), ("plain", [ONE, SEVEN], [1], [], None))
        changed = thing.with_words(1)
        fields.clear()
        self.assertEqual(changed.fields(), [ONE, SEVEN])

    def test_it_is_not_changed_either(self):
        fields = [ONE, SEVEN]
        plain(fields, None).with_field(0, TWO).with_words(4)
        self.assertEqual(fields, [ONE, SEVEN])

    def test_lists_told(self):
        for thing in (plain([ONE, TWO], 3), weak(ONE), pair(ONE, TWO), plain([ONE], 3).with_field(0, TWO)):
            before = told(thing)
            thing.fields().append(SEVEN)
            thing.fields()[0] = NOTHING
            thing.holds().append(9)
            thing.waits().append((9, ONE))
            self.assertEqual(told(thing), before)
            self.assertIsNot(thing.fields(), thing.fields())
            self.assertIsNot(thing.holds(), thing.holds())
            self.assertIsNot(thing.waits(), thing.waits())

    def test_a_thing_and_one_made_of_it(self):
        first = plain([ONE], None)
        second = first.with_words(2)
        second.fields().clear()
        first.fields().clear()
        self.assertEqual((first.fields(), second.fields()), ([ONE], [ONE]))

    def test_kinds(self):
        for thing in (plain([ONE], 3), weak(ONE), pair(ONE, TWO)):
            self.assertIs(type(thing.sort_of()), str)
            for listed in (thing.fields(), thing.holds(), thing.waits()):
                self.assertIs(type(listed), list)


if __name__ == "__main__":
    unittest.main()
