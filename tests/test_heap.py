import unittest

from heapsafe.errors import NoField, NoRoom, NoThing
from heapsafe.heap import Heap
from heapsafe.looker import lets_by
from heapsafe.plainheap import PlainHeap
from heapsafe.programs import deed_read
from helping import NOTHING, deeds_of, said

FENCES = ("new", "old")
NO_TURN = ("turn", [], [], [], [], [], [], [])


def thing(serial):
    return ("thing", serial)


def number(told):
    return ("number", told)


def heap_of(text, many=4, cells=16, fence="new"):
    heap = Heap(many, cells, fence)
    for deed in deeds_of(text):
        heap.do(deed)
    return heap


def steps(heap, many):
    for step in range(many):
        heap.step()


def to_stage(heap, stage):
    while heap.stage() != stage:
        heap.step()


def state(heap):
    return (heap.roots(), heap.heard_row(), heap.things(), heap.last())


def rows_behind(heap, ahead):
    return heap.log()[ahead:]


def deed_row(text, answer="ok"):
    return ("deed", deed_read(text), answer)


class AtFirst(unittest.TestCase):
    def test_it_is_empty_and_rests(self):
        for fence in FENCES:
            heap = Heap(2, 5, fence)
            self.assertEqual(state(heap), ({}, [], {}, 0))
            self.assertEqual((heap.log(), heap.stage(), heap.colours(), heap.rooms_of()), ([], "rest", {}, {}))

    def test_the_fence_is_new_if_none_is_told(self):
        heap = Heap(2, 5)
        heap.step()
        said(heap, "make a 0")
        self.assertEqual(heap.colours(), {1: "white"})


class AnswersAndRefusals(unittest.TestCase):
    ROWS = ("num a 5; tell a; make b 2; tell b; tell x; same a a; same a b; put b 0 a; get c b 0; tell c; weak w b; look d w; "
            "same d b; pair p b a; find e p b; tell e; find e p w; tell e; words b 9; hear z; copy f b; same f b; drop f; "
            "tell f; get b b 0; tell b; make q 8; make q 0; pair q q q; num a 0; tell a; put d 1 d; get d d 1; same d w")

    def test_answers_are_a_plain_heaps_in_every_stage(self):
        for fence in FENCES:
            for many in range(8):
                heap, plain = Heap(20, 20, fence), PlainHeap()
                steps(heap, many)
                for deed in deeds_of(self.ROWS):
                    wanted = plain.do(deed)
                    self.assertEqual(heap.do(deed), wanted, deed)
                    self.assertEqual(heap.log()[-1], ("deed", deed, wanted))
                    self.assertEqual((heap.roots(), heap.last()), (plain.roots(), plain.last()))

    AHEAD = "make p 2; weak w p; num n 1; pair q p n"
    NO_THING = ("weak a n; weak a x; pair a n p; pair a x p; words w 1; words q 1; words n 1; put w 0 p; put q 0 p; put x 0 p; "
                "get a w 0; get a n 0; look a p; look a q; look a x; find a p p; find a w p; find a q n; find a q x; put x 9 p; "
                "get a q 7")
    NO_FIELD = "put p 2 n; put p 3 x; get a p 2; get a p 8; get a p 999999999999999999999999999999999999999999999999999999999999"

    def assert_refused(self, rows, refusal, word):
        for fence in FENCES:
            for many in range(9):
                heap = heap_of(self.AHEAD, fence=fence)
                steps(heap, many)
                for deed in deeds_of(rows):
                    before, colours, ahead = state(heap), heap.colours(), len(heap.log())
                    with self.assertRaises(refusal) as told:
                        heap.do(deed)
                    self.assertIs(type(told.exception), refusal)
                    self.assertEqual((state(heap), heap.colours()), (before, colours))
                    self.assertEqual(rows_behind(heap, ahead), [("deed", deed, word)])

    def test_no_thing(self):
        self.assert_refused(self.NO_THING, NoThing, "no thing")

    def test_no_field(self):
        self.assert_refused(self.NO_FIELD, NoField, "no field")

    def test_a_refused_deed_uses_up_no_serial(self):
        heap = Heap(4, 16)
        with self.assertRaises(NoThing):
            said(heap, "weak a b")
        said(heap, "make a 0")
        self.assertEqual(heap.roots(), {"a": thing(1)})

    def test_a_thing_that_would_be_refused_is_refused_though_there_is_no_room(self):
        heap = Heap(1, 2)
        with self.assertRaises(NoThing):
            said(heap, "weak a b")
        self.assertEqual(heap.log(), [deed_row("weak a b", "no thing")])


class TheStages(unittest.TestCase):
    def test_a_whole_round_step_by_step(self):
        # a holds 1, which holds 2; 3 is not open.
        text = "make a 1; make b 0; put a 0 b; make c 0; drop b; drop c"
        for fence in FENCES:
            heap = heap_of(text, 3, 8, fence)
            ahead = len(heap.log())
            self.assertEqual(heap.colours(), {1: "white", 2: "white", 3: "white"})
            wanted = (
                ("marking", {1: "grey", 2: "white", 3: "white"}, [("begin",)]),
                ("marking", {1: "black", 2: "grey", 3: "white"}, []),
                ("marking", {1: "black", 2: "black", 3: "white"}, []),
                ("sweeping", {1: "black", 2: "black"}, [("turn", [1, 2], [], [], [], [1, 2], [], [])]),
                ("sweeping", {1: "black", 2: "black"}, [("freed", [])]),
                ("sweeping", {1: "black", 2: "black"}, [("freed", [3])]),
                ("rest", {1: "white", 2: "white"}, [("freed", []), ("end",)]),
                ("marking", {1: "grey", 2: "white"}, [("begin",)]),
            )
            for stage, colours, rows in wanted:
                heap.step()
                self.assertEqual((heap.stage(), heap.colours(), rows_behind(heap, ahead)), (stage, colours, rows))
                ahead += len(rows)
            self.assertTrue(lets_by(heap.log()))

    def test_what_is_open_is_shaded_by_rising_serials(self):
        heap = heap_of("make d 0; make c 0; make b 0; make a 0; copy z b")
        heap.step()
        for serial in (1, 2, 3, 4):
            self.assertEqual(heap.colours()[serial], "grey")
            heap.step()
            self.assertEqual(heap.colours()[serial], "black")
        self.assertEqual(heap.stage(), "marking")

    def test_whatever_the_order_of_roots_and_of_the_row_to_be_heard(self):
        # 1 comes into root z behind 2 and 3, and 4 is in the row to be heard while 5 is in a root.
        heap = heap_of("make x 0; make c 0; make b 0; copy z x; drop x; make d 0; words d 7; drop d")
        to_stage(heap, "sweeping")
        to_stage(heap, "rest")
        said(heap, "make a 0")
        self.assertEqual(heap.heard_row(), [(4, 7)])
        heap.step()
        for serial in (1, 2, 3, 4, 5):
            self.assertEqual(heap.colours()[serial], "grey")
            heap.step()
            self.assertEqual(heap.colours()[serial], "black")

    def test_the_grey_row_is_first_in_first_out(self):
        heap = heap_of("make b 2; make a 1; make x 0; make y 0; make z 0; put b 0 z; put b 1 x; put a 0 y; drop x; drop y; drop z")
        heap.step()
        colours = []
        while "grey" in heap.colours().values():
            colours.append("".join(heap.colours()[serial][0] for serial in (1, 2, 3, 4, 5)))
            heap.step()
        self.assertEqual(colours, ["ggwww", "bggwg", "bbggg", "bbggb", "bbbgb"])

    def test_the_row_to_be_heard_is_open(self):
        heap = heap_of("make a 1; words a 7; make b 0; put a 0 b; drop a; drop b")
        to_stage(heap, "sweeping")
        to_stage(heap, "rest")
        self.assertEqual(heap.heard_row(), [(1, 7)])
        heap.step()
        self.assertEqual(heap.colours(), {1: "grey", 2: "white"})

    def test_an_empty_heap(self):
        heap = Heap(2, 5)
        steps(heap, 4)
        self.assertEqual(heap.log(), [("begin",), NO_TURN, ("freed", []), ("freed", []), ("end",)])
        self.assertEqual(heap.stage(), "rest")

    def test_sweeping_takes_the_rooms_from_0_on(self):
        heap = heap_of("make a 0; make b 0; make c 0; make d 0; make e 0; make f 0; drop a; drop d; drop e; drop c", 3, 7)
        self.assertEqual(heap.rooms_of(), {1: 0, 2: 0, 3: 1, 4: 1, 5: 2, 6: 2})
        to_stage(heap, "sweeping")
        ahead = len(heap.log())
        steps(heap, 3)
        self.assertEqual(rows_behind(heap, ahead), [("freed", [1]), ("freed", [3, 4]), ("freed", [5]), ("end",)])
        self.assertEqual(heap.rooms_of(), {2: 0, 6: 2})

    def test_one_room(self):
        heap = heap_of("make a 0; drop a", 1, 3)
        steps(heap, 3)
        self.assertEqual(heap.log()[2:], [("begin",), NO_TURN, ("freed", [1]), ("end",)])

    def test_serials_freed_rise_whatever_their_places(self):
        heap = heap_of("make a 0; make b 0; make c 0; drop a", 1, 9)
        to_stage(heap, "sweeping")
        to_stage(heap, "rest")
        for deed in deeds_of("make d 0; drop d; drop b"):
            heap.do(deed)
        to_stage(heap, "sweeping")
        heap.step()
        self.assertEqual(heap.log()[-2:], [("freed", [2, 4]), ("end",)])


class MadeWithinARound(unittest.TestCase):
    def test_while_marking(self):
        for fence, colour in (("new", "white"), ("old", "black")):
            heap = heap_of("make k 0", fence=fence)
            heap.step()
            for text in ("make a 1", "weak b k", "pair c k a"):
                said(heap, text)
            self.assertEqual(heap.colours(), {1: "grey", 2: colour, 3: colour, 4: colour})
            to_stage(heap, "sweeping")
            self.assertEqual(heap.log()[-1], ("turn", [1, 2, 3, 4], [], [], [], [1, 2, 3, 4], [], []))

    def test_while_marking_and_forgotten(self):
        for fence, kept in (("new", []), ("old", [1])):
            heap = Heap(1, 16, fence)
            heap.step()
            said(heap, "make a 1")
            said(heap, "drop a")
            heap.step()
            self.assertEqual(heap.log()[-1], ("turn", kept, [], [], [], kept, [], []))

    def test_while_sweeping(self):
        for fence in FENCES:
            heap = heap_of("make x 0; drop x", 2, 9, fence)
            to_stage(heap, "sweeping")
            for text in ("make a 0", "weak b a", "drop a", "make c 0", "pair d b c"):
                said(heap, text)
            self.assertEqual(heap.colours(), {2: "black", 3: "black", 4: "black", 5: "black"})
            self.assertEqual(heap.rooms_of(), {2: 0, 3: 0, 4: 1, 5: 1})
            steps(heap, 2)
            self.assertEqual(heap.log()[-3:], [("freed", [1]), ("freed", []), ("end",)])
            self.assertEqual(heap.colours(), {2: "white", 3: "white", 4: "white", 5: "white"})
            self.assertTrue(lets_by(heap.log()))

    def test_a_swept_room_is_used_again_amid_sweeping(self):
        heap = heap_of("make x 0; make y 0; drop x; drop y", 2, 3)
        to_stage(heap, "sweeping")
        heap.step()
        said(heap, "make a 0")
        self.assertEqual((heap.rooms_of(), heap.stage()), ({3: 0}, "sweeping"))
        heap.step()
        self.assertEqual((heap.things(), heap.stage()), ({3: ("plain", [], None)}, "rest"))


class TheFences(unittest.TestCase):
    def marking(self, text, fence, many):
        heap = heap_of(text, fence=fence)
        steps(heap, many)
        self.assertEqual(heap.stage(), "marking")
        return heap

    # 1 is in a, 2 in b with 3 in its field 0; 3 is white while 1 is black and 2 grey.
    TEXT = "make a 1; make b 2; make c 0; put b 0 c; drop c"

    def test_new_shades_what_is_put_in(self):
        heap = self.marking(self.TEXT, "new", 2)
        said(heap, "get c b 0")
        self.assertEqual(heap.colours(), {1: "black", 2: "grey", 3: "white"})
        said(heap, "put a 0 c")
        self.assertEqual(heap.colours(), {1: "black", 2: "grey", 3: "grey"})

    def test_new_does_not_shade_what_was_there(self):
        heap = self.marking(self.TEXT, "new", 2)
        said(heap, "num n 4")
        said(heap, "put b 0 n")
        self.assertEqual(heap.colours(), {1: "black", 2: "grey", 3: "white"})

    def test_old_shades_what_was_there(self):
        heap = self.marking(self.TEXT, "old", 2)
        said(heap, "put b 0 x")
        self.assertEqual(heap.colours(), {1: "black", 2: "grey", 3: "grey"})

    def test_old_does_not_shade_what_is_put_in(self):
        heap = self.marking(self.TEXT, "old", 2)
        said(heap, "get c b 0")
        said(heap, "put a 0 c")
        self.assertEqual(heap.colours(), {1: "black", 2: "grey", 3: "white"})

    def test_shaded_ones_go_to_the_end_of_the_row(self):
        heap = self.marking(self.TEXT, "old", 1)
        said(heap, "put b 0 x")
        self.assertEqual(heap.colours(), {1: "grey", 2: "grey", 3: "grey"})
        steps(heap, 2)
        self.assertEqual(heap.colours(), {1: "black", 2: "black", 3: "grey"})

    def test_old_shades_what_a_look_brings_and_new_does_not(self):
        for fence, colour in (("new", "white"), ("old", "grey")):
            heap = self.marking("make t 0; weak w t; drop t", fence, 1)
            self.assertEqual(heap.colours(), {1: "white", 2: "grey"})
            said(heap, "look x w")
            self.assertEqual(heap.colours(), {1: colour, 2: "grey"})
            to_stage(heap, "sweeping")
            self.assertEqual(heap.log()[-1], ("turn", [1, 2], [], [], [], [1, 2], [], []))

    def test_at_the_turn_new_shades_what_is_open_once_more(self):
        heap = self.marking("make b 1; make c 0; put b 0 c; drop c", "new", 3)
        said(heap, "make d 0")
        self.assertEqual(heap.colours(), {1: "black", 2: "black", 3: "white"})
        heap.step()
        self.assertEqual(heap.log()[-1], ("turn", [1, 2, 3], [], [], [], [1, 2, 3], [], []))

    def test_what_is_refused_shades_nothing(self):
        for fence in FENCES:
            heap = self.marking(self.TEXT, fence, 2)
            said(heap, "get c b 0")
            for row in ("put a 1 c", "put b 7 c", "put x 0 c"):
                with self.assertRaises((NoField, NoThing)):
                    said(heap, row)
            with self.assertRaises(NoThing):
                said(heap, "look c b")
            self.assertEqual(heap.colours(), {1: "black", 2: "grey", 3: "white"})

    def test_no_shading_at_rest_and_while_sweeping(self):
        for fence in FENCES:
            heap = heap_of(self.TEXT + "; weak w b", fence=fence)
            for row in ("get c b 0", "put a 0 c", "put b 0 x", "look l w"):
                said(heap, row)
            self.assertEqual(set(heap.colours().values()), {"white"})
            to_stage(heap, "sweeping")
            for row in ("put b 0 c", "put a 0 x", "look l w"):
                said(heap, row)
            self.assertEqual(set(heap.colours().values()), {"black"})
            to_stage(heap, "rest")
            self.assertTrue(lets_by(heap.log()))

    def test_get_find_copy_and_hear_shade_nothing(self):
        for fence in FENCES:
            heap = self.marking(self.TEXT + "; make v 0; pair p a v; drop v", fence, 1)
            before = heap.colours()
            for row in ("get c b 0", "find v p a", "copy d c", "hear h"):
                said(heap, row)
            self.assertEqual(heap.colours(), before)


class Turns(unittest.TestCase):
    def test_weak_things_pairs_and_last_words(self):
        text = "make a 0; words a 5; weak w a; make k 0; pair p k a; drop a; drop k"
        for fence in FENCES:
            heap = heap_of(text, fence=fence)
            to_stage(heap, "sweeping")
            self.assertEqual(heap.log()[-1], ("turn", [2, 4], [2], [4], [1], [1, 2, 4], [], []))
            self.assertEqual(heap.things(), {1: ("plain", [], None), 2: ("weak", [NOTHING], None),
                                             4: ("pair", [NOTHING, NOTHING], None)})
            self.assertEqual(heap.heard_row(), [(1, 5)])
            self.assertEqual(said(heap, "hear h"), "5")
            self.assertEqual((heap.roots()["h"], heap.heard_row()), (thing(1), []))
            said(heap, "look l w")
            self.assertEqual(said(heap, "tell l"), "nothing")
            to_stage(heap, "rest")
            self.assertEqual(sorted(heap.things()), [1, 2, 4])
            self.assertTrue(lets_by(heap.log()))

    def test_given_again_and_due_once_more(self):
        heap = heap_of("make a 0; words a 5; drop a")
        to_stage(heap, "sweeping")
        to_stage(heap, "rest")
        for deed in deeds_of("hear a; words a 6; drop a"):
            heap.do(deed)
        to_stage(heap, "sweeping")
        self.assertEqual(heap.heard_row(), [(1, 6)])
        self.assertEqual(said(heap, "hear b"), "6")
        self.assertEqual(said(heap, "hear b"), "none")

    def test_it_stands_in_the_row_by_the_words_with_which_it_came(self):
        heap = heap_of("make a 1; words a 5; make b 1; put b 0 a; words b 8; drop a; drop b")
        to_stage(heap, "sweeping")
        self.assertEqual(heap.heard_row(), [(1, 5), (2, 8)])
        self.assertEqual(said(heap, "hear a"), "5")
        said(heap, "words a 9")
        self.assertEqual(heap.heard_row(), [(2, 8)])
        self.assertEqual(said(heap, "hear b"), "8")
        self.assertEqual(heap.things()[1], ("plain", [NOTHING], 9))


class WantOfRoom(unittest.TestCase):
    def assert_made(self, heap, row, rows):
        ahead = len(heap.log())
        self.assertEqual(said(heap, row), "ok")
        self.assertEqual(rows_behind(heap, ahead), rows + [deed_row(row)])
        self.assertEqual(heap.stage(), "rest")
        self.assertTrue(lets_by(heap.log()))

    def assert_refused(self, heap, row, rows):
        ahead, roots, last = len(heap.log()), heap.roots(), heap.last()
        with self.assertRaises(NoRoom) as told:
            said(heap, row)
        self.assertIs(type(told.exception), NoRoom)
        self.assertEqual(rows_behind(heap, ahead), rows + [deed_row(row, "no room")])
        self.assertEqual((heap.roots(), heap.last(), heap.stage()), (roots, last, "rest"))
        self.assertTrue(lets_by(heap.log()))

    def test_at_rest_and_made_in_the_end(self):
        for fence in FENCES:
            heap = heap_of("make a 0; make b 0; make c 0; drop b", 1, 9, fence)
            rows = [("begin",), ("turn", [1, 3], [], [], [], [1, 3], [], []), ("freed", [2]), ("end",), ("packed",)]
            self.assert_made(heap, "make d 0", rows)
            self.assertEqual(heap.roots(), {"a": thing(1), "c": thing(3), "d": thing(4)})
            self.assertEqual(heap.things(), {1: ("plain", [], None), 3: ("plain", [], None), 4: ("plain", [], None)})

    def test_only_packing_leaves_the_gap(self):
        heap = heap_of("make a 0; make b 0; make c 0; make d 1; drop a; drop c; put d 0 b; words b 4; weak w d; drop w", 2, 11)
        self.assert_made(heap, "make e 3", [("begin",), ("turn", [2, 4], [], [], [], [2, 4], [], []), ("freed", [1, 3]),
                                            ("freed", [5]), ("end",), ("packed",)])
        self.assertEqual(heap.things(), {2: ("plain", [], 4), 4: ("plain", [thing(2)], None), 6: ("plain", [NOTHING] * 3, None)})
        self.assertEqual(heap.rooms_of(), {2: 0, 4: 1, 6: 0})
        self.assertEqual(heap.roots(), {"b": thing(2), "d": thing(4), "e": thing(6)})

    def test_where_it_finds_a_gap_nothing_is_done(self):
        heap = heap_of("make a 0; drop a; make b 0; drop b", 1, 9)
        self.assertEqual(said(heap, "make c 0"), "ok")
        self.assertEqual([row[0] for row in heap.log()], ["deed"] * 5)

    def test_at_rest_and_refused(self):
        for fence in FENCES:
            heap = heap_of("make a 0; make b 0; num d 3", 1, 6, fence)
            rows = [("begin",), ("turn", [1, 2], [], [], [], [1, 2], [], []), ("freed", []), ("end",), ("packed",)]
            for row in ("make d 0", "weak d a", "pair d a b", "make a 8"):
                self.assert_refused(heap, row, rows)
            said(heap, "drop a")
            self.assert_made(heap, "make c 0", [("begin",), ("turn", [2], [], [], [], [2], [], []), ("freed", [1]), ("end",),
                                                ("packed",)])
            self.assertEqual(heap.roots()["c"], thing(3))

    def test_a_thing_longer_than_a_room(self):
        heap = Heap(3, 4)
        self.assert_refused(heap, "make a 2", [("begin",), NO_TURN, ("freed", []), ("freed", []), ("freed", []), ("end",), ("packed",)])
        self.assertEqual(said(heap, "make a 1"), "ok")
        self.assertEqual(heap.roots(), {"a": thing(1)})

    def test_amid_marking(self):
        for fence in FENCES:
            heap = heap_of("make a 0; make b 0; drop b", 1, 6, fence)
            heap.step()
            self.assert_made(heap, "make c 0", [
                ("turn", [1], [], [], [], [1], [], []), ("freed", [2]), ("end",),
                ("begin",), ("turn", [1], [], [], [], [1], [], []), ("freed", []), ("end",), ("packed",)])
            self.assertEqual(heap.colours(), {1: "white", 3: "white"})

    def test_amid_sweeping(self):
        for fence in FENCES:
            heap = heap_of("make a 0; make b 0; make c 0; drop c", 3, 3, fence)
            to_stage(heap, "sweeping")
            heap.step()
            self.assert_made(heap, "make d 0", [
                ("freed", []), ("freed", [3]), ("end",), ("begin",), ("turn", [1, 2], [], [], [], [1, 2], [], []),
                ("freed", []), ("freed", []), ("freed", []), ("end",), ("packed",)])

    def test_amid_marking_and_refused(self):
        heap = heap_of("make a 0", 1, 3)
        steps(heap, 2)
        rows = [("turn", [1], [], [], [], [1], [], []), ("freed", []), ("end",)]
        self.assert_refused(heap, "weak a a", rows + [("begin",)] + rows + [("packed",)])

    def test_amid_sweeping_and_refused(self):
        for fence in FENCES:
            for row in ("make a 0", "weak a b", "pair b a c"):
                heap = heap_of("make a 0; make b 0; num c 4", 2, 3, fence)
                to_stage(heap, "sweeping")
                heap.step()
                rows = [("turn", [1, 2], [], [], [], [1, 2], [], []), ("freed", []), ("freed", []), ("end",)]
                self.assert_refused(heap, row, rows[2:] + [("begin",)] + rows + [("packed",)])

    def test_old_garbage_of_the_round_in_hand_goes_with_the_whole_round(self):
        # 2 is black when it is forgotten: only the round behind the one in hand frees it.
        heap = heap_of("make a 0; make b 0", 1, 6)
        steps(heap, 3)
        said(heap, "drop b")
        self.assert_made(heap, "make c 0", [
            ("turn", [1, 2], [], [], [], [1, 2], [], []), ("freed", []), ("end",),
            ("begin",), ("turn", [1], [], [], [], [1], [], []), ("freed", [2]), ("end",), ("packed",)])

    def test_packing_names_things_in_roots_fields_and_the_row_anew(self):
        text = ("make x 0; make a 1; make y 0; make b 1; put a 0 b; put b 0 a; make z 0; make c 0; words c 7; drop c; "
                "weak w b; pair p a b; drop x; drop y; drop z; drop b")
        for fence in FENCES:
            heap = heap_of(text, 1, 27, fence)
            self.assert_made(heap, "make d 6", [("begin",), ("turn", [2, 4, 7, 8], [], [], [6], [2, 4, 6, 7, 8], [], []),
                                                ("freed", [1, 3, 5]), ("end",), ("packed",)])
            self.assertEqual(heap.roots(), {"a": thing(2), "w": thing(7), "p": thing(8), "d": thing(9)})
            self.assertEqual(heap.things(), {
                2: ("plain", [thing(4)], None), 4: ("plain", [thing(2)], None), 6: ("plain", [], None),
                7: ("weak", [thing(4)], None), 8: ("pair", [thing(2), thing(4)], None), 9: ("plain", [NOTHING] * 6, None)})
            self.assertEqual(heap.heard_row(), [(6, 7)])
            for row, answer in (("get b a 0", "ok"), ("get e b 0", "ok"), ("same a e", "yes"), ("look l w", "ok"),
                                ("same l b", "yes"), ("find f p a", "ok"), ("same f b", "yes"), ("hear h", "7")):
                self.assertEqual(said(heap, row), answer)

    def test_weak_and_pair_made_behind_packing_name_the_right_things(self):
        for fence in FENCES:
            heap = heap_of("make x 0; make a 0; make b 0; drop x", 1, 9, fence)
            self.assertEqual(said(heap, "weak w b"), "ok")
            self.assertEqual(heap.things()[4], ("weak", [thing(3)], None))
            heap = heap_of("make x 1; make a 0; make b 0; drop x", 1, 10, fence)
            self.assertEqual(said(heap, "pair p b a"), "ok")
            self.assertEqual(heap.things()[4], ("pair", [thing(3), thing(2)], None))
            self.assertEqual(heap.log()[-2], ("packed",))

    def test_the_root_that_is_written_is_read_ahead(self):
        heap = heap_of("make a 0", 1, 3)
        self.assert_refused(heap, "make a 0", [("begin",), ("turn", [1], [], [], [], [1], [], []), ("freed", []), ("end",), ("packed",)])


class WhatIsTold(unittest.TestCase):
    def test_things_that_are_not_swept_yet_are_not_told_while_sweeping(self):
        heap = heap_of("make a 0; make b 0; make c 0; drop a; drop c", 3, 3)
        self.assertEqual(sorted(heap.things()), [1, 2, 3])
        to_stage(heap, "sweeping")
        for step in range(3):
            self.assertEqual((sorted(heap.things()), heap.colours(), heap.rooms_of()), ([2], {2: "black"}, {2: 1}))
            heap.step()
        self.assertEqual((sorted(heap.things()), heap.colours(), heap.rooms_of()), ([2], {2: "white"}, {2: 1}))

    def test_forgotten_ones_are_told_till_the_turn(self):
        heap = heap_of("make a 0; drop a")
        heap.step()
        self.assertEqual(heap.things(), {1: ("plain", [], None)})
        self.assertEqual(heap.colours(), {1: "white"})

    def test_rooms(self):
        heap = heap_of("make a 8; make b 1; make c 8; weak d a", 3, 11)
        self.assertEqual(heap.rooms_of(), {1: 0, 2: 1, 3: 2, 4: 1})

    def test_values_by_serials(self):
        heap = heap_of("make x 8; make a 3; make b 0; num n 3; put a 0 b; put a 1 n; weak w a; pair p a n; words a 2", 2, 20)
        self.assertEqual(heap.things(), {
            1: ("plain", [NOTHING] * 8, None), 2: ("plain", [thing(3), number(3), NOTHING], 2), 3: ("plain", [], None),
            4: ("weak", [thing(2)], None), 5: ("pair", [thing(2), number(3)], None)})
        self.assertEqual(heap.roots(), {"x": thing(1), "a": thing(2), "b": thing(3), "n": number(3), "w": thing(4), "p": thing(5)})
        self.assertEqual(heap.last(), 5)

    def test_all_that_is_told_is_the_askers_own(self):
        heap = heap_of("make a 1; words a 4; drop a; make b 1; put b 0 b; make c 0; drop c")
        to_stage(heap, "sweeping")
        heap.step()
        before = (state(heap), heap.colours(), heap.rooms_of(), heap.log())
        heap.roots().clear()
        heap.heard_row().clear()
        for told in heap.things().values():
            told[1].append(number(1))
        heap.things().clear()
        heap.colours().clear()
        heap.rooms_of()[1] = 99
        for row in heap.log():
            for part in row[1:]:
                if isinstance(part, list):
                    part.append(77)
        heap.log().clear()
        self.assertEqual((state(heap), heap.colours(), heap.rooms_of(), heap.log()), before)

    def test_what_was_told_stays(self):
        heap = heap_of("make a 1; words a 4; drop a; make b 0")
        to_stage(heap, "sweeping")
        told = (state(heap), heap.colours(), heap.rooms_of(), heap.log())
        again = (state(heap), heap.colours(), heap.rooms_of(), heap.log())
        for deed in deeds_of("hear x; put x 0 x; words x 5; drop b; make c 1"):
            heap.do(deed)
        steps(heap, 9)
        self.assertEqual(told, again)

    def test_two_heaps_have_nothing_in_common(self):
        one, other = Heap(2, 8), Heap(2, 8, "old")
        said(one, "make a 0")
        one.step()
        self.assertEqual((state(other), other.log(), other.stage()), (({}, [], {}, 0), [], "rest"))

    def test_kinds(self):
        heap = heap_of("make a 1")
        told = (heap.roots(), heap.heard_row(), heap.things(), heap.last(), heap.colours(), heap.rooms_of(), heap.log(), heap.stage())
        self.assertEqual([type(part) for part in told], [dict, list, dict, int, dict, dict, list, str])
        self.assertIs(type(heap.log()[0]), tuple)
        self.assertIs(type(heap.things()[1]), tuple)


if __name__ == "__main__":
    unittest.main()
