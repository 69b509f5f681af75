import itertools
import random
import unittest

from heapsafe.keeping import blind_pairs, blind_weak, is_closed, least_closed, open_things, why_kept, whole_turn
from heapsafe.plainheap import PlainHeap
from heapsafe.programs import program_read

NOTHING = ("nothing",)


def value_of(some):
    """A serial for a thing, None for nothing, a text for a number."""
    if some is None:
        return NOTHING
    return ("number", int(some)) if isinstance(some, str) else ("thing", some)


def plain(*fields, words=None):
    return ("plain", [value_of(field) for field in fields], words)


def weak(field):
    return ("weak", [value_of(field)], None)


def pair(key, value):
    return ("pair", [value_of(key), value_of(value)], None)


def numbered(*things):
    return dict(enumerate(things, start=1))


def heap_of(text):
    heap = PlainHeap()
    for deed in program_read(text.replace("; ", "\n")):
        heap.do(deed)
    return heap


def closed_by_words(things, some):
    """Point 21, word by word."""
    for serial in some:
        kind, fields, words = things[serial]
        if kind == "plain" and any(value[0] == "thing" and value[1] not in some for value in fields):
            return False
        if kind == "pair" and fields[0][0] == "thing" and fields[0][1] in some:
            if fields[1][0] == "thing" and fields[1][1] not in some:
                return False
    return True


def least_by_trying(things, some):
    """The least of all closed sets that have some, found among all sets there are."""
    for many in range(len(things) + 1):
        for tried in itertools.combinations(sorted(things), many):
            if set(some) <= set(tried) and closed_by_words(things, tried):
                return list(tried)
    return None


def random_things(chance, many):
    def any_value():
        return chance.choice([NOTHING, ("number", chance.randint(0, 9))] + [("thing", chance.randint(1, many))] * 4)

    def any_thing():
        return chance.choice([NOTHING] + [("thing", chance.randint(1, many))] * 6)

    made = {}
    for serial in range(1, many + 1):
        kind = chance.choice(("plain", "plain", "weak", "pair", "pair"))
        if kind == "plain":
            words = chance.choice((None, None, chance.randint(0, 9)))
            made[serial] = (kind, [any_value() for at in range(chance.randint(0, 3))], words)
        elif kind == "weak":
            made[serial] = (kind, [any_thing()], None)
        else:
            made[serial] = (kind, [any_thing(), any_value()], None)
    return made


class ToldHeap:
    """What a plain heap tells of itself, and no more."""

    def __init__(self, things, roots, heard):
        self.told = (things, roots, heard)

    def things(self):
        return {serial: (kind, list(fields), words) for serial, (kind, fields, words) in self.told[0].items()}

    def roots(self):
        return dict(self.told[1])

    def heard_row(self):
        return list(self.told[2])


class OpenThings(unittest.TestCase):
    def test_none(self):
        self.assertEqual(open_things(PlainHeap()), [])
        self.assertEqual(open_things(heap_of("num a 1; make b 0; drop b")), [])

    def test_roots_name_them_rising_each_once(self):
        heap = heap_of("make z 0; make y 0; make x 0; make w 0; copy a z; copy b w; num c 2; drop x")
        self.assertEqual(open_things(heap), [1, 2, 4])

    def test_many_of_them_rise_too(self):
        heap = heap_of("; ".join(f"make {letter} 0" for letter in "abcdefghijklmnopqrstuvwxyz"))
        for letter in "abcdefghijklmnopqrstuvwxyz":
            if letter not in "ahpx":
                heap.do(("drop", letter))
        self.assertEqual(open_things(heap), [1, 8, 16, 24])

    def test_the_row_to_be_heard(self):
        heap = heap_of("make a 0; words a 1; make b 0; words b 2; make c 0; words c 3; drop a; drop b")
        heap.make_due(2)
        heap.make_due(1)
        self.assertEqual(open_things(heap), [1, 2, 3])
        heap.make_due(3)
        self.assertEqual(open_things(heap), [1, 2, 3])
        heap.do(("hear", "z"))
        heap.do(("drop", "z"))
        self.assertEqual(open_things(heap), [1, 3])

    def test_what_things_hold_is_not_open(self):
        self.assertEqual(open_things(heap_of("make a 1; make b 0; put a 0 b; drop b")), [1])


class Closed(unittest.TestCase):
    def test_the_empty_set(self):
        self.assertIs(is_closed({}, []), True)
        self.assertIs(is_closed(numbered(plain(2), plain()), []), True)

    def test_what_is_held(self):
        things = numbered(plain(2, "3"), plain(), plain(3), plain(1, 2, 3))
        for some, wanted in (([1], False), ([1, 2], True), ([2], True), ([3], True), ([4], False), ([1, 2, 4], False),
                             ([1, 2, 3, 4], True), ([2, 3], True), ([1, 3], False)):
            self.assertIs(is_closed(things, some), wanted, some)

    def test_weak_things_hold_nothing(self):
        self.assertIs(is_closed(numbered(weak(2), plain()), [1]), True)

    def test_pairs(self):
        things = numbered(pair(2, 3), plain(), plain(), pair(None, 3), pair(2, "3"), pair(6, 3), pair(2, 7), pair(2, None))
        for some, wanted in (([1], True), ([1, 3], True), ([1, 2], False), ([1, 2, 3], True), ([4], True), ([2, 4], True),
                             ([2, 5], True), ([6], False), ([3, 6], True), ([2, 7], True), ([7], True), ([2, 8], True)):
            self.assertIs(is_closed(things, some), wanted, some)

    def test_all_sets_of_many_small_heaps(self):
        chance = random.Random(21)
        for turn in range(60):
            things = random_things(chance, chance.randint(1, 6))
            for many in range(len(things) + 1):
                for some in itertools.combinations(sorted(things), many):
                    self.assertIs(is_closed(things, list(some)), closed_by_words(things, some), (things, some))


class TheLeastClosedSet(unittest.TestCase):
    def test_none_at_all(self):
        self.assertEqual(least_closed({}, []), [])
        self.assertEqual(least_closed(numbered(plain(1)), []), [])

    def test_things_that_name_themselves(self):
        things = numbered(plain(1), pair(2, 2), weak(3), plain(4, 4, 1))
        self.assertEqual([least_closed(things, [serial]) for serial in (1, 2, 3, 4)], [[1], [2], [3], [1, 4]])

    def test_keys_that_come_in_late(self):
        # 1 holds the pair first, and the key only over two more things.
        things = numbered(plain(2, 4), pair(3, 6), plain(), plain(5), plain(3), plain(7), plain(), plain())
        self.assertEqual(least_closed(things, [1]), [1, 2, 3, 4, 5, 6, 7])
        self.assertEqual(least_closed(things, [2]), [2])
        self.assertEqual(least_closed(things, [2, 3]), [2, 3, 6, 7])

    def test_chains_of_pairs(self):
        # Each pair's value is the key of the pair ahead of it by number, and the other way round.
        many = 50
        falling = {serial: pair(100 + serial, 99 + serial) for serial in range(1, many + 1)}
        rising = {serial: pair(100 + serial, 101 + serial) for serial in range(1, many + 1)}
        others = {100 + serial: plain() for serial in range(many + 2)}
        pairs = list(range(1, many + 1))
        self.assertEqual(least_closed({**falling, **others}, pairs + [150]), pairs + list(range(100, 151)))
        self.assertEqual(least_closed({**falling, **others}, pairs + [110]), pairs + list(range(100, 111)))
        self.assertEqual(least_closed({**rising, **others}, pairs + [101]), pairs + list(range(101, 152)))

    def test_pairs_whose_values_are_pairs(self):
        things = numbered(pair(5, 2), pair(5, 3), pair(5, 4), pair(6, 7), plain(), plain(), plain())
        self.assertEqual(least_closed(things, [1, 5]), [1, 2, 3, 4, 5])
        self.assertEqual(least_closed(things, [1, 5, 6]), [1, 2, 3, 4, 5, 6, 7])

    def test_a_pair_that_is_its_own_key(self):
        self.assertEqual(least_closed(numbered(pair(1, 2), plain()), [1]), [1, 2])

    def test_two_pairs_that_wait_for_one_another(self):
        things = numbered(pair(3, 4), pair(4, 3), plain(), plain())
        self.assertEqual(least_closed(things, [1, 2]), [1, 2])
        self.assertEqual(least_closed(things, [1, 2, 3]), [1, 2, 3, 4])

    def test_by_trying_all_sets(self):
        chance = random.Random(22)
        for turn in range(150):
            things = random_things(chance, chance.randint(1, 8))
            some = sorted(chance.sample(sorted(things), chance.randint(0, min(3, len(things)))))
            self.assertEqual(least_closed(things, some), least_by_trying(things, some), (things, some))

    def test_a_thousand_things_in_a_row(self):
        things = {serial: plain(serial + 1) for serial in range(1, 1000)}
        things[1000] = plain()
        self.assertEqual(least_closed(things, [1]), list(range(1, 1001)))

    def test_what_is_handed_in_stays(self):
        things = numbered(plain(2), pair(1, 3), plain())
        some = [1, 2]
        self.assertEqual(least_closed(things, some), [1, 2, 3])
        least_closed(things, some).append(9)
        why_kept(things, some).append(9)
        is_closed(things, some)
        self.assertEqual((things, some), (numbered(plain(2), pair(1, 3), plain()), [1, 2]))
        told = least_closed(things, [1, 2, 3])
        told.clear()
        self.assertEqual(least_closed(things, [1, 2, 3]), [1, 2, 3])


class WhyEachIsKept(unittest.TestCase):
    def assert_good(self, things, some):
        rows = why_kept(things, some)
        self.assertIs(type(rows), list)
        self.assertEqual(sorted(row[0] for row in rows), least_closed(things, some))
        self.assertEqual(sorted(row[0] for row in rows if row[1] == "begin"), some)
        ahead = set()
        for row in rows:
            self.assertIs(type(row), tuple)
            serial, how, other = row
            if how == "begin":
                self.assertIsNone(other)
            else:
                self.assertIn(other, ahead, rows)
                kind, fields, words = things[other]
                if how == "held":
                    self.assertEqual(kind, "plain")
                    self.assertIn(("thing", serial), fields)
                else:
                    self.assertEqual((how, kind), ("pair", "pair"))
                    self.assertEqual(fields[1], ("thing", serial))
                    self.assertEqual(fields[0][0], "thing")
                    self.assertIn(fields[0][1], ahead, rows)
            ahead.add(serial)

    def test_none(self):
        self.assertEqual(why_kept({}, []), [])
        self.assertEqual(why_kept(numbered(plain()), []), [])

    def test_written_out(self):
        things = numbered(plain(2), pair(1, 3), plain())
        self.assertEqual(why_kept(things, [1]), [(1, "begin", None), (2, "held", 1), (3, "pair", 2)])

    def test_what_is_handed_in_begins_though_it_is_held_too(self):
        rows = why_kept(numbered(plain(2), plain(1)), [1, 2])
        self.assertEqual(sorted(rows), [(1, "begin", None), (2, "begin", None)])

    def test_the_key_is_ahead_though_it_came_late(self):
        self.assert_good(numbered(plain(2, 4), pair(3, 6), plain(), plain(5), plain(3), plain(7), plain()), [1])

    def test_many(self):
        chance = random.Random(23)
        for turn in range(400):
            things = random_things(chance, chance.randint(1, 14))
            some = sorted(chance.sample(sorted(things), chance.randint(0, min(4, len(things)))))
            self.assert_good(things, some)


class Blind(unittest.TestCase):
    def test_weak_things(self):
        things = numbered(weak(2), plain(), weak(None), weak(4), weak(1))
        self.assertEqual(blind_weak(things, []), [])
        self.assertEqual(blind_weak(things, [1]), [1])
        self.assertEqual(blind_weak(things, [1, 2]), [])
        self.assertEqual(blind_weak(things, [3]), [])
        self.assertEqual(blind_weak(things, [4]), [])
        self.assertEqual(blind_weak(things, [5]), [5])
        self.assertEqual(blind_weak(things, [1, 5]), [1])
        self.assertEqual(blind_weak(things, [2, 3, 5]), [5])

    def test_pairs(self):
        things = numbered(pair(2, 3), plain(), plain(), pair(None, 3), pair(5, 2), pair(2, None))
        self.assertEqual(blind_pairs(things, [1]), [1])
        self.assertEqual(blind_pairs(things, [1, 2]), [])
        self.assertEqual(blind_pairs(things, [1, 3, 6]), [1, 6])
        self.assertEqual(blind_pairs(things, [4]), [])
        self.assertEqual(blind_pairs(things, [5]), [])

    def test_each_looks_at_its_own_sort(self):
        things = numbered(weak(4), pair(4, 4), plain(4), plain())
        self.assertEqual(blind_weak(things, [1, 2, 3]), [1])
        self.assertEqual(blind_pairs(things, [1, 2, 3]), [2])

    def test_the_value_of_a_pair_does_not_count(self):
        self.assertEqual(blind_pairs(numbered(pair(2, 3), plain(), plain()), [1, 2]), [])

    def test_those_outside_are_not_told(self):
        things = numbered(weak(4), pair(4, 4), weak(4), plain())
        self.assertEqual((blind_weak(things, [3]), blind_pairs(things, [3])), ([3], []))


def turn_by_words(heap):
    """Points 26 to 28, with sets found by trying."""
    things = heap.things()
    begin = {value[1] for value in heap.roots().values() if value[0] == "thing"}
    begin |= {serial for serial, words in heap.heard_row()}
    kept = least_by_trying(things, begin)
    cleared = [at for at in kept if things[at][0] == "weak" and things[at][1][0][0] == "thing"
               and things[at][1][0][1] not in kept]
    dropped = [at for at in kept if things[at][0] == "pair" and things[at][1][0][0] == "thing"
               and things[at][1][0][1] not in kept]
    due = [at for at in sorted(things) if at not in kept and things[at][2] is not None]
    for at in cleared + dropped:
        things[at] = (things[at][0], [NOTHING] * len(things[at][1]), None)
    stays = least_by_trying(things, kept + due)
    too = [at for at in stays if things[at][0] != "plain" and things[at][1][0][0] == "thing"
           and things[at][1][0][1] not in stays]
    return (kept, cleared, dropped, due, stays, [at for at in too if things[at][0] == "weak"],
            [at for at in too if things[at][0] == "pair"])


class WholeTurns(unittest.TestCase):
    def test_of_an_empty_heap(self):
        self.assertEqual(whole_turn(PlainHeap()), ([], [], [], [], [], [], []))

    def test_nothing_to_clear(self):
        heap = heap_of("make a 1; make b 0; put a 0 b; drop b; make c 0; drop c")
        self.assertEqual(whole_turn(heap), ([1, 2], [], [], [], [1, 2], [], []))

    def test_weak_things_and_pairs_go_blind(self):
        heap = heap_of("make t 0; weak w t; pair p t w; drop t; make o 0; weak v o; pair q o o")
        self.assertEqual(whole_turn(heap), ([2, 3, 4, 5, 6], [2], [3], [], [2, 3, 4, 5, 6], [], []))

    def test_due_ones_bring_others_back(self):
        heap = heap_of("make a 1; words a 5; make b 0; put a 0 b; drop b; drop a; make c 0; drop c")
        self.assertEqual(whole_turn(heap), ([], [], [], [1], [1, 2], [], []))

    def test_kept_ones_with_words_are_not_due(self):
        heap = heap_of("make a 0; words a 5; make b 0; words b 0; drop b")
        self.assertEqual(whole_turn(heap), ([1], [], [], [2], [1, 2], [], []))

    def test_those_in_the_row_to_be_heard_are_kept(self):
        heap = heap_of("make a 1; words a 5; make b 0; put a 0 b; drop a; drop b")
        heap.make_due(1)
        self.assertEqual(whole_turn(heap), ([1, 2], [], [], [], [1, 2], [], []))

    def test_a_kept_weak_thing_is_cleared_though_its_thing_comes_back(self):
        heap = heap_of("make a 0; words a 5; weak w a; drop a")
        self.assertEqual(whole_turn(heap), ([2], [2], [], [1], [1, 2], [], []))

    def test_a_kept_pair_is_dropped_though_its_key_comes_back(self):
        heap = heap_of("make k 0; words k 5; make v 0; pair p k v; drop k; drop v")
        self.assertEqual(whole_turn(heap), ([3], [], [3], [1], [1, 3], [], []))

    def test_due_ones_bring_back_weak_things_and_pairs(self):
        # 1 is due and holds a weak thing, 3, and a pair, 5; their things, 2 and 4, stay away.
        heap = heap_of("make a 2; words a 5; make t 0; weak w t; make k 0; pair p k t; put a 0 w; put a 1 p; "
                       "drop a; drop t; drop w; drop k; drop p")
        self.assertEqual(whole_turn(heap), ([], [], [], [1], [1, 3, 5], [3], [5]))

    def test_due_ones_bring_back_pairs_with_their_keys_and_values(self):
        heap = heap_of("make a 2; words a 5; make k 0; make v 0; pair p k v; put a 0 p; put a 1 k; "
                       "drop a; drop k; drop v; drop p")
        self.assertEqual(whole_turn(heap), ([], [], [], [1], [1, 2, 3, 4], [], []))

    def test_a_key_that_is_due_brings_the_value_of_a_due_ones_pair(self):
        heap = heap_of("make a 1; words a 5; make k 0; words k 6; make v 0; pair p k v; put a 0 p; "
                       "drop a; drop k; drop v; drop p")
        self.assertEqual(whole_turn(heap), ([], [], [], [1, 2], [1, 2, 3, 4], [], []))

    def test_the_heap_stays_as_it_is(self):
        heap = heap_of("make a 1; words a 5; weak w a; pair p a a; put a 0 p; drop a")
        before = (heap.roots(), heap.heard_row(), heap.things(), heap.last())
        told = whole_turn(heap)
        self.assertEqual(told, ([2, 3], [2], [3], [1], [1, 2, 3], [], []))
        for part in told:
            part.append(99)
        self.assertEqual((heap.roots(), heap.heard_row(), heap.things(), heap.last()), before)
        self.assertEqual(whole_turn(heap), ([2, 3], [2], [3], [1], [1, 2, 3], [], []))

    def test_many_by_trying(self):
        chance = random.Random(28)
        for turn in range(250):
            things = random_things(chance, chance.randint(1, 8))
            roots = {letter: ("thing", chance.choice(sorted(things))) for letter in chance.sample("abc", chance.randint(0, 3))}
            heard = [(chance.choice(sorted(things)), 1) for at in range(chance.randint(0, 1))]
            heap = ToldHeap(things, roots, heard)
            self.assertEqual(whole_turn(heap), turn_by_words(heap), (things, roots, heard))


if __name__ == "__main__":
    unittest.main()
