import unittest

from heapsafe.errors import NoField, NoThing
from heapsafe.plainheap import PlainHeap
from heapsafe.programs import deed_read

NOTHING = ("nothing",)
SIXTY = 10**60 - 1


def number(told):
    return ("number", told)


def thing(serial):
    return ("thing", serial)


def heap_of(*rows):
    heap = PlainHeap()
    for row in rows:
        heap.do(deed_read(row))
    return heap


def said(heap, row):
    return heap.do(deed_read(row))


def state(heap):
    return (heap.roots(), heap.heard_row(), heap.things(), heap.last())


class AtFirst(unittest.TestCase):
    def test_all_is_empty(self):
        self.assertEqual(state(PlainHeap()), ({}, [], {}, 0))

    def test_every_root_is_nothing(self):
        heap = PlainHeap()
        for letter in "abcdefghijklmnopqrstuvwxyz":
            self.assertEqual(said(heap, f"tell {letter}"), "nothing")

    def test_two_heaps_have_nothing_in_common(self):
        one, other = PlainHeap(), PlainHeap()
        said(one, "make a 1")
        self.assertEqual(state(other), ({}, [], {}, 0))


class DeedsThatGiveRoots(unittest.TestCase):
    def test_num(self):
        heap = PlainHeap()
        for told in (0, 7, SIXTY):
            self.assertEqual(said(heap, f"num a {told}"), "ok")
            self.assertEqual(heap.roots(), {"a": number(told)})
            self.assertEqual(said(heap, "tell a"), str(told))
        self.assertEqual(heap.last(), 0)

    def test_make(self):
        for many in range(9):
            heap = PlainHeap()
            self.assertEqual(said(heap, f"make a {many}"), "ok")
            self.assertEqual(state(heap), ({"a": thing(1)}, [], {1: ("plain", [NOTHING] * many, None)}, 1))

    def test_serials_rise_from_1(self):
        heap = heap_of("make a 0", "weak b a", "pair c a b", "make a 1", "num d 4")
        self.assertEqual(heap.roots(), {"a": thing(4), "b": thing(2), "c": thing(3), "d": number(4)})
        self.assertEqual(heap.last(), 4)
        self.assertEqual(sorted(heap.things()), [1, 2, 3, 4])

    def test_nothing_is_ever_freed(self):
        heap = heap_of("make a 0", "drop a", "make a 1", "make a 2")
        self.assertEqual(sorted(heap.things()), [1, 2, 3])

    def test_weak(self):
        heap = heap_of("make a 0")
        self.assertEqual(said(heap, "weak b a"), "ok")
        self.assertEqual(heap.things()[2], ("weak", [thing(1)], None))
        self.assertEqual(said(heap, "weak a a"), "ok")
        self.assertEqual(heap.things()[3], ("weak", [thing(1)], None))
        self.assertEqual(said(heap, "weak c b"), "ok")
        self.assertEqual(heap.things()[4], ("weak", [thing(2)], None))
        self.assertEqual(heap.roots(), {"a": thing(3), "b": thing(2), "c": thing(4)})

    def test_pair_of_each_sort_of_value(self):
        heap = heap_of("make k 0", "num n 5", "make t 1")
        for row, wanted in (("pair p k n", number(5)), ("pair p k x", NOTHING), ("pair p k t", thing(2)),
                            ("pair p k k", thing(1)), ("pair p k p", thing(6))):
            self.assertEqual(said(heap, row), "ok")
            self.assertEqual(heap.things()[heap.last()], ("pair", [thing(1), wanted], None))
            self.assertEqual(heap.roots()["p"], thing(heap.last()))

    def test_pair_of_keys_of_any_sort(self):
        heap = heap_of("make k 0", "weak w k", "pair p k k")
        for letter, serial in (("k", 1), ("w", 2), ("p", 3)):
            said(heap, f"pair q {letter} {letter}")
            self.assertEqual(heap.things()[heap.last()], ("pair", [thing(serial), thing(serial)], None))

    def test_copy_and_drop(self):
        heap = heap_of("num a 3", "make b 0")
        self.assertEqual(said(heap, "copy c a"), "ok")
        self.assertEqual(said(heap, "copy d b"), "ok")
        self.assertEqual(heap.roots(), {"a": number(3), "b": thing(1), "c": number(3), "d": thing(1)})
        self.assertEqual(said(heap, "copy c x"), "ok")
        self.assertEqual(said(heap, "drop a"), "ok")
        self.assertEqual(said(heap, "drop x"), "ok")
        self.assertEqual(said(heap, "copy b b"), "ok")
        self.assertEqual(heap.roots(), {"b": thing(1), "d": thing(1)})


class DeedsThatTell(unittest.TestCase):
    def test_tell(self):
        heap = heap_of("num a 12", "make b 0", "weak c b", "pair d b b", f"num e {SIXTY}", "num f 0")
        self.assertEqual([said(heap, f"tell {letter}") for letter in "abcdefg"],
                         ["12", "thing", "thing", "thing", "9" * 60, "0", "nothing"])

    def test_same(self):
        heap = heap_of("num a 1", "num b 1", "num c 2", "make d 0", "copy e d", "make f 0")
        yes = ("a a", "a b", "d d", "d e", "x x", "x y")
        no = ("a c", "a d", "a x", "d f", "d x", "x a", "x d", "e f")
        self.assertEqual([said(heap, "same " + two) for two in yes], ["yes"] * len(yes))
        self.assertEqual([said(heap, "same " + two) for two in no], ["no"] * len(no))

    def test_a_thing_and_the_number_of_its_serial_are_not_the_same(self):
        self.assertEqual(said(heap_of("make a 0", "num b 1"), "same a b"), "no")

    def test_two_numbers_of_sixty_figures(self):
        heap = heap_of(f"num a {SIXTY}", f"num b {SIXTY}", f"num c {SIXTY - 1}")
        self.assertEqual((said(heap, "same a b"), said(heap, "same a c")), ("yes", "no"))

    def test_they_change_nothing(self):
        heap = heap_of("num a 1", "make b 2")
        before = state(heap)
        for row in ("tell a", "tell b", "tell c", "same a b", "same b b"):
            said(heap, row)
        self.assertEqual(state(heap), before)


class Fields(unittest.TestCase):
    def test_put_each_sort_of_value(self):
        heap = heap_of("make a 3", "num n 8", "make t 0")
        self.assertEqual(said(heap, "put a 0 n"), "ok")
        self.assertEqual(said(heap, "put a 2 t"), "ok")
        self.assertEqual(heap.things()[1], ("plain", [number(8), NOTHING, thing(2)], None))
        self.assertEqual(said(heap, "put a 0 x"), "ok")
        self.assertEqual(said(heap, "put a 1 a"), "ok")
        self.assertEqual(heap.things()[1], ("plain", [NOTHING, thing(1), thing(2)], None))
        self.assertEqual(heap.things()[2], ("plain", [], None))

    def test_get_each_sort_of_value(self):
        heap = heap_of("make a 3", "num n 8", "put a 0 n", "make t 0", "put a 1 t", "num r 5")
        for at, wanted in enumerate((number(8), thing(2), NOTHING)):
            self.assertEqual(said(heap, f"get r a {at}"), "ok")
            self.assertEqual(heap.roots().get("r", NOTHING), wanted)

    def test_all_eight_fields(self):
        heap = heap_of("make a 8")
        for at in range(8):
            said(heap, f"num n {at}")
            said(heap, f"put a {at} n")
        self.assertEqual(heap.things()[1][1], [number(at) for at in range(8)])
        for at in range(8):
            said(heap, f"get r a {at}")
            self.assertEqual(said(heap, "tell r"), str(at))

    def test_the_root_that_is_read_is_the_one_that_is_written(self):
        heap = heap_of("make a 1", "make b 1", "num n 3", "put b 0 n", "put a 0 b")
        self.assertEqual(said(heap, "get a a 0"), "ok")
        self.assertEqual(heap.roots()["a"], thing(2))
        self.assertEqual(said(heap, "get a a 0"), "ok")
        self.assertEqual(heap.roots()["a"], number(3))

    def test_roots_are_read_ahead_of_all(self):
        heap = heap_of("make a 0", "weak a a", "look a a")
        self.assertEqual(heap.roots(), {"a": thing(1)})
        heap = heap_of("make a 0", "pair a a a")
        self.assertEqual(heap.things()[2], ("pair", [thing(1), thing(1)], None))
        heap = heap_of("make k 0", "num v 6", "pair p k v", "find p p k")
        self.assertEqual(heap.roots()["p"], number(6))
        heap = heap_of("make k 0", "num v 6", "pair p k v", "find k p k")
        self.assertEqual(heap.roots()["k"], number(6))
        heap = heap_of("make a 1", "put a 0 a", "get a a 0")
        self.assertEqual((heap.roots(), heap.things()), ({"a": thing(1)}, {1: ("plain", [thing(1)], None)}))

    def test_copies_name_the_same_thing(self):
        heap = heap_of("make a 1", "copy b a", "num n 2", "put b 0 n", "get c a 0")
        self.assertEqual(heap.roots()["c"], number(2))


class LookAndFind(unittest.TestCase):
    def test_look(self):
        heap = heap_of("make a 0", "weak w a", "drop a")
        self.assertEqual(said(heap, "look b w"), "ok")
        self.assertEqual(heap.roots()["b"], thing(1))
        heap.clear(2)
        self.assertEqual(said(heap, "look b w"), "ok")
        self.assertEqual(heap.roots(), {"w": thing(2)})

    def test_find_by_the_key_and_by_others(self):
        heap = heap_of("make k 0", "make o 0", "num v 6", "pair p k v", "num r 1")
        self.assertEqual(said(heap, "find r p k"), "ok")
        self.assertEqual(heap.roots()["r"], number(6))
        self.assertEqual(said(heap, "find r p o"), "ok")
        self.assertNotIn("r", heap.roots())
        self.assertEqual(said(heap, "find r p p"), "ok")
        self.assertNotIn("r", heap.roots())

    def test_find_in_a_dropped_pair(self):
        heap = heap_of("make k 0", "num v 6", "pair p k v", "num r 1")
        heap.drop_pair(2)
        self.assertEqual(said(heap, "find r p k"), "ok")
        self.assertNotIn("r", heap.roots())

    def test_find_by_keys_of_all_sorts(self):
        heap = heap_of("make t 0", "weak w t", "pair q t w", "num v 1", "pair a w v", "num v 2", "pair b q v",
                       "find x a w", "find y b q", "find z b w")
        self.assertEqual((heap.roots()["x"], heap.roots()["y"]), (number(1), number(2)))
        self.assertNotIn("z", heap.roots())


class Words(unittest.TestCase):
    def test_words_are_given_and_given_anew(self):
        heap = heap_of("make a 1")
        for told in (0, 5, SIXTY, 1):
            self.assertEqual(said(heap, f"words a {told}"), "ok")
            self.assertEqual(heap.things(), {1: ("plain", [NOTHING], told)})

    def test_put_leaves_the_words(self):
        heap = heap_of("make a 1", "words a 4", "put a 0 a")
        self.assertEqual(heap.things(), {1: ("plain", [thing(1)], 4)})

    def test_words_leave_the_fields(self):
        heap = heap_of("make a 1", "put a 0 a", "words a 4")
        self.assertEqual(heap.things(), {1: ("plain", [thing(1)], 4)})


class Refusals(unittest.TestCase):
    # p is a plain thing with two fields, w a weak one, q a pair, n a number, x nothing.
    ROWS = ("make p 2", "weak w p", "num n 1", "pair q p n")
    NO_THING = (
        "weak a n", "weak a x", "pair a n p", "pair a x p", "pair a n n",
        "words w 1", "words q 1", "words n 1", "words x 1",
        "put w 0 p", "put q 0 p", "put n 0 p", "put x 0 p",
        "get a w 0", "get a q 0", "get a n 0", "get a x 0",
        "look a p", "look a q", "look a n", "look a x",
        "find a p p", "find a w p", "find a n p", "find a x p", "find a q n", "find a q x", "find a x x",
    )
    NO_FIELD = ("put p 2 n", "put p 3 x", f"put p {SIXTY} p", "get a p 2", "get a p 8", f"get a p {SIXTY}", "get p p 2")
    BOTH = ("put w 9 p", "put x 9 x", f"get a n {SIXTY}", "get a q 2", "put q 2 n")

    def assert_refused(self, rows, refusal):
        for row in rows:
            heap = heap_of(*self.ROWS)
            before = state(heap)
            with self.assertRaises(refusal, msg=row) as told:
                said(heap, row)
            self.assertIs(type(told.exception), refusal)
            self.assertEqual(state(heap), before, row)
            said(heap, "make z 0")
            self.assertEqual(heap.roots()["z"], thing(4), row)

    def test_no_thing(self):
        self.assert_refused(self.NO_THING, NoThing)

    def test_no_field(self):
        self.assert_refused(self.NO_FIELD, NoField)

    def test_no_thing_comes_ahead_of_no_field(self):
        self.assert_refused(self.BOTH, NoThing)

    def test_no_field_of_a_thing_without_fields(self):
        heap = heap_of("make a 0")
        for row in ("put a 0 a", "get b a 0"):
            with self.assertRaises(NoField):
                said(heap, row)

    def test_a_field_below_0_is_none(self):
        heap = heap_of("make a 2")
        for deed in (("put", "a", -1, "a"), ("get", "b", "a", -1)):
            with self.assertRaises(NoField):
                heap.do(deed)

    def test_deeds_that_want_no_thing(self):
        for row in ("make n 1", "make x 1", "num p 1", "copy a x", "copy p n", "drop p", "drop x", "tell x", "same x p",
                    "hear x", "hear p", "pair a p x", "pair a q n", "put p 1 x"):
            said(heap_of(*self.ROWS), row)


class Events(unittest.TestCase):
    def test_a_weak_thing_is_cleared(self):
        heap = heap_of("make a 0", "weak w a", "weak v a")
        heap.clear(2)
        wanted = {1: ("plain", [], None), 2: ("weak", [NOTHING], None), 3: ("weak", [thing(1)], None)}
        self.assertEqual(heap.things(), wanted)
        heap.clear(2)
        self.assertEqual(heap.things(), wanted)
        self.assertEqual(heap.roots(), {"a": thing(1), "w": thing(2), "v": thing(3)})

    def test_a_pair_is_dropped(self):
        heap = heap_of("make a 0", "pair p a a", "num n 3", "pair q a n")
        heap.drop_pair(2)
        wanted = {1: ("plain", [], None), 2: ("pair", [NOTHING, NOTHING], None), 3: ("pair", [thing(1), number(3)], None)}
        self.assertEqual(heap.things(), wanted)
        heap.drop_pair(2)
        self.assertEqual(heap.things(), wanted)
        heap.drop_pair(3)
        self.assertEqual(heap.things()[3], ("pair", [NOTHING, NOTHING], None))

    def test_last_words_are_due(self):
        heap = heap_of("make a 1", "put a 0 a", "words a 7")
        heap.make_due(1)
        self.assertEqual(state(heap), ({"a": thing(1)}, [(1, 7)], {1: ("plain", [thing(1)], None)}, 1))

    def test_words_of_0_are_due(self):
        heap = heap_of("make a 0", "words a 0")
        heap.make_due(1)
        self.assertEqual(heap.heard_row(), [(1, 0)])
        self.assertEqual(said(heap, "hear b"), "0")

    def test_given_again_while_in_the_row_and_due_once_more(self):
        heap = heap_of("make a 0", "words a 7")
        heap.make_due(1)
        said(heap, "words a 8")
        self.assertEqual(heap.heard_row(), [(1, 7)])
        self.assertEqual(heap.things()[1], ("plain", [], 8))
        heap.make_due(1)
        self.assertEqual(heap.heard_row(), [(1, 7), (1, 8)])
        self.assertEqual(heap.things()[1], ("plain", [], None))
        self.assertEqual(said(heap, "hear b"), "7")
        self.assertEqual(heap.heard_row(), [(1, 8)])
        self.assertEqual(said(heap, "hear c"), "8")
        self.assertEqual(heap.roots(), {"a": thing(1), "b": thing(1), "c": thing(1)})
        self.assertEqual(heap.heard_row(), [])

    def test_events_give_no_serials(self):
        heap = heap_of("make a 0", "words a 7", "weak w a", "pair p a a")
        heap.make_due(1)
        heap.clear(2)
        heap.drop_pair(3)
        self.assertEqual(heap.last(), 3)


class Hear(unittest.TestCase):
    def test_an_empty_row(self):
        heap = heap_of("num a 1")
        self.assertEqual(said(heap, "hear a"), "none")
        self.assertEqual(heap.roots(), {})

    def test_the_first_leaves_first(self):
        heap = heap_of("make a 0", "words a 11", "make b 0", "words b 0", "make c 0", f"words c {SIXTY}")
        for serial in (3, 1, 2):
            heap.make_due(serial)
        self.assertEqual(heap.heard_row(), [(3, SIXTY), (1, 11), (2, 0)])
        self.assertEqual(said(heap, "hear r"), "9" * 60)
        self.assertEqual((heap.roots()["r"], heap.heard_row()), (thing(3), [(1, 11), (2, 0)]))
        self.assertEqual(said(heap, "hear r"), "11")
        self.assertEqual(said(heap, "hear r"), "0")
        self.assertEqual((heap.roots()["r"], heap.heard_row()), (thing(2), []))
        self.assertEqual(said(heap, "hear r"), "none")
        self.assertNotIn("r", heap.roots())

    def test_only_this_place_of_it_leaves(self):
        heap = heap_of("make a 0", "words a 1", "make b 0", "words b 2")
        heap.make_due(1)
        heap.make_due(2)
        said(heap, "words a 3")
        heap.make_due(1)
        said(heap, "hear r")
        self.assertEqual(heap.heard_row(), [(2, 2), (1, 3)])


class NothingIsShared(unittest.TestCase):
    def test_what_is_told_is_the_askers_own(self):
        heap = heap_of("make a 2", "words a 4", "num n 3", "weak w a", "pair p a n")
        heap.make_due(1)
        before = state(heap)
        heap.roots().clear()
        heap.roots()["z"] = number(1)
        heap.heard_row().append((9, 9))
        heap.heard_row().pop(0)
        heap.things().pop(1)
        for told in heap.things().values():
            told[1].append(number(1))
            told[1][0] = number(5)
        self.assertEqual(state(heap), before)

    def test_what_was_told_stays(self):
        heap = heap_of("make a 1", "words a 4")
        told = state(heap)
        for row in ("put a 0 a", "words a 9", "make b 1", "num c 1"):
            said(heap, row)
        heap.make_due(1)
        self.assertEqual(told, ({"a": thing(1)}, [], {1: ("plain", [NOTHING], 4)}, 1))

    def test_kinds(self):
        heap = heap_of("make a 1", "words a 4")
        heap.make_due(1)
        self.assertEqual([type(part) for part in state(heap)], [dict, list, dict, int])
        kind, fields, words = heap.things()[1]
        self.assertEqual([type(part) for part in (kind, fields, words)], [str, list, type(None)])
        self.assertIs(type(heap.things()[1]), tuple)
        self.assertIs(type(heap.heard_row()[0]), tuple)


if __name__ == "__main__":
    unittest.main()
