"""Points 3 and 4, over the whole program: many programs, cuttings, fences and small memories."""
import random
import unittest

from heapsafe.errors import HeapError, NoRoom
from heapsafe.heap import Heap
from heapsafe.keeping import is_closed, least_closed, open_things, whole_turn
from heapsafe.logs import log_read, log_shown
from heapsafe.looker import lets_by
from heapsafe.plainheap import PlainHeap
from heapsafe.runs import run, whole_round
from helping import ALL_WORDS, SAFE_WORDS, random_cutting, random_program

FENCES = ("new", "old")
SHAPES = ((1, 5), (1, 12), (1, 30), (2, 8), (3, 11), (4, 16), (6, 4), (9, 3), (2, 60))
ROOMY = (40, 60)


def random_run(chance, words=ALL_WORDS, shapes=SHAPES):
    many = chance.randint(5, 80)
    return (random_program(chance, many, words), random_cutting(chance, many), chance.choice(FENCES), *chance.choice(shapes))


def outcome(heap, deed):
    try:
        return heap.do(deed)
    except HeapError as refusal:
        return {"NoThing": "no thing", "NoField": "no field", "NoRoom": "no room"}[type(refusal).__name__]


def size_of(told):
    return len(told[1]) + (3 if told[0] == "plain" else 2)


def follow(heap, row):
    """A plain heap is told what a row of a log says became of weak things, pairs and last words."""
    word, kept, cleared, dropped, due, stays, cleared_too, dropped_too = row
    for serial in cleared:
        heap.clear(serial)
    for serial in dropped:
        heap.drop_pair(serial)
    for serial in due:
        heap.make_due(serial)
    for serial in cleared_too:
        heap.clear(serial)
    for serial in dropped_too:
        heap.drop_pair(serial)


class LogsAreLetBy(unittest.TestCase):
    def test_many_runs(self):
        words = set()
        for seed in range(600):
            told = random_run(random.Random(seed))
            answers, log = run(*told)
            self.assertTrue(lets_by(log), told)
            self.assertEqual(log_read(log_shown(log)), log)
            words |= {row[0] if row[0] != "deed" else row[2] for row in log}
        self.assertLessEqual({"begin", "turn", "freed", "end", "packed", "ok", "no thing", "no field", "no room", "thing",
                              "nothing", "yes", "no", "none", "0", "1", "2", "3"}, words)

    def test_answers_are_a_plain_heaps_and_nothing_freed_is_reached(self):
        for seed in range(150):
            answers, log = run(*random_run(random.Random(f"plain {seed}")))
            heap, freed = PlainHeap(), set()
            for row in log:
                if row[0] == "deed" and row[2] != "no room":
                    self.assertEqual(outcome(heap, row[1]), row[2])
                elif row[0] == "turn":
                    follow(heap, row)
                elif row[0] == "freed":
                    freed |= set(row[1])
                self.assertFalse(freed & set(least_closed(heap.things(), open_things(heap))))

    def test_the_heap_tells_what_the_plain_heap_tells_of_what_is_left(self):
        for seed in range(60):
            chance = random.Random(f"tells {seed}")
            program, cutting, fence, many, cells = random_run(chance)
            heap = Heap(many, cells, fence)
            plain, read = PlainHeap(), 0
            for deed in program:
                for step in range(chance.randint(0, 3)):
                    heap.step()
                outcome(heap, deed)
                log = heap.log()
                for row in log[read:]:
                    if row[0] == "deed" and row[2] != "no room":
                        outcome(plain, row[1])
                    elif row[0] == "turn":
                        follow(plain, row)
                read = len(log)
                things = plain.things()
                self.assertEqual(heap.things(), {serial: things[serial] for serial in heap.things()})
                self.assertLessEqual(set(least_closed(things, open_things(plain))), set(heap.things()))
                self.assertEqual((heap.roots(), heap.heard_row(), heap.last()), (plain.roots(), plain.heard_row(), plain.last()))
                self.assertEqual(set(heap.colours()), set(heap.things()))
                self.assertEqual(set(heap.rooms_of()), set(heap.things()))

    def test_changed_logs_are_not(self):
        seen = 0
        for seed in range(200):
            answers, log = run(*random_run(random.Random(f"changed {seed}")))
            for at, row in enumerate(log):
                if row[0] == "turn":
                    for number in (2, 3, 4, 6, 7):
                        for serial in row[number]:
                            parts = list(row)
                            parts[number] = [other for other in row[number] if other != serial]
                            self.assertFalse(lets_by(log[:at] + [tuple(parts)]))
                            seen += 1
                    for serial in row[5]:
                        self.assertFalse(lets_by(log[:at + 1] + [("freed", [serial])]))
                if row[0] == "freed" and row[1]:
                    self.assertFalse(lets_by(log[:at] + [("freed", row[1] + row[1][:1])]))
                    self.assertFalse(lets_by(log[:at] + [("freed", row[1][1:])] + log[at + 1:]) and ("end",) in log[at:])
        self.assertGreater(seen, 50)


class RoundsFree(unittest.TestCase):
    def test_a_round_without_deeds_keeps_just_what_is_kept_and_brought_back(self):
        for seed in range(200):
            chance = random.Random(f"round {seed}")
            program, cutting, fence, many, cells = random_run(chance)
            heap = Heap(many, cells, fence)
            for deed, number in zip(program, cutting):
                for step in range(number):
                    heap.step()
                outcome(heap, deed)
            while heap.stage() != "rest":
                heap.step()
            wanted, there, ahead = whole_turn(heap), sorted(heap.things()), len(heap.log())
            freed = whole_round(heap)
            turns = [row for row in heap.log()[ahead:] if row[0] == "turn"]
            self.assertEqual(turns, [("turn",) + wanted])
            self.assertEqual(sorted(heap.things()), wanted[4])
            self.assertEqual(freed, [serial for serial in there if serial not in wanted[4]])
            self.assertEqual(set(heap.colours().values()) - {"white"}, set())

    def test_what_is_there_at_the_beginning_and_out_of_reach_is_freed_by_the_end(self):
        checked = 0
        for seed in range(300):
            chance = random.Random(f"free {seed}")
            program, cutting, fence, many, cells = random_run(chance, shapes=(ROOMY, (4, 30)))
            heap = Heap(many, cells, fence)
            doomed = None
            for deed in program:
                for step in range(chance.randint(0, 3)):
                    if heap.stage() == "rest":
                        self.assert_gone(heap, doomed)
                        checked += len(doomed or ())
                        things = heap.things()
                        begin = set(open_things(heap)) | {serial for serial in things if things[serial][2] is not None}
                        doomed, looked = self.doomed_of(things, begin), set()
                    heap.step()
                rounds = heap.log().count(("begin",))
                told = outcome(heap, deed)
                if heap.log().count(("begin",)) != rounds:
                    doomed = None
                elif deed[0] == "look" and told == "ok" and doomed is not None and heap.stage() == "marking":
                    looked |= {value[1] for letter, value in heap.roots().items() if letter == deed[1] and value[0] == "thing"}
                    doomed = self.doomed_of(things, begin | (looked & set(things)))
        self.assertGreater(checked, 300)

    def doomed_of(self, things, begin):
        return set(things) - set(least_closed(things, sorted(begin)))

    def assert_gone(self, heap, doomed):
        if doomed is not None:
            self.assertEqual(doomed & set(heap.things()), set())

    def test_make_is_refused_only_where_a_whole_round_and_packing_leave_no_gap(self):
        refused = made = 0
        for seed in range(300):
            chance = random.Random(f"room {seed}")
            program, cutting, fence, many, cells = random_run(chance, shapes=SHAPES[:-1] + ((3, 14), (2, 20)))
            heap = Heap(many, cells, fence)
            for deed in program:
                for step in range(chance.randint(0, 2)):
                    heap.step()
                ahead, stage, roots, last = len(heap.log()), heap.stage(), heap.roots(), heap.last()
                try:
                    heap.do(deed)
                except NoRoom:
                    refused += 1
                    self.assert_no_gap(heap, deed, many, cells)
                    self.assertEqual((heap.roots(), heap.last()), (roots, last))
                except HeapError:
                    pass
                rows = [row[0] for row in heap.log()[ahead:]]
                if len(rows) > 1:
                    made += heap.log()[-1][2] == "ok"
                    self.assertEqual((rows.count("begin"), rows.count("end")), (1, 1 if stage == "rest" else 2))
                    self.assertEqual((rows[-2:], rows.count("packed"), heap.stage()), (["packed", "deed"], 1, "rest"))
        self.assertGreater(refused, 100)
        self.assertGreater(made, 50)

    def assert_no_gap(self, heap, deed, many, cells):
        """All garbage is gone, all is packed, and no room has cells enough left."""
        length = {"make": 3 + (deed[2] if deed[0] == "make" else 0), "weak": 3, "pair": 4}[deed[0]]
        self.assertEqual(sorted(heap.things()), sorted(whole_turn(heap)[4]))
        taken = [0] * many
        for serial, room in heap.rooms_of().items():
            taken[room] += size_of(heap.things()[serial])
        self.assertTrue(all(cells - some < length for some in taken))


class ColoursAtEachStep(unittest.TestCase):
    def runs_of(self, fence):
        for seed in range(60):
            chance = random.Random(f"colours {seed}")
            heap = Heap(*chance.choice(SHAPES + (ROOMY,)), fence)
            for deed in random_program(chance, 60, ALL_WORDS):
                outcome(heap, deed)
                yield heap
                for step in range(chance.randint(0, 2)):
                    heap.step()
                    yield heap

    def test_under_new(self):
        for heap in self.runs_of("new"):
            if heap.stage() == "marking":
                things, colours = heap.things(), heap.colours()
                for serial, (kind, fields, words) in things.items():
                    if kind == "plain" and colours[serial] == "black":
                        self.assertNotIn("white", [colours[value[1]] for value in fields if value[0] == "thing"])

    def test_under_old(self):
        for heap in self.runs_of("old"):
            if heap.stage() == "marking":
                things = heap.things()
                would = self.drained(things, heap.colours())
                self.assertTrue(is_closed(things, would))
                self.assertLessEqual(set(open_things(heap)), set(would))

    def drained(self, things, colours):
        """What would be marked; what a black thing holds is not gone into."""
        marked = {serial for serial in things if colours[serial] != "white"}
        todo = [serial for serial in things if colours[serial] == "grey"]
        while True:
            while todo:
                kind, fields, words = things[todo.pop()]
                held = {value[1] for value in fields if value[0] == "thing" and kind == "plain"} - marked
                marked |= held
                todo += held
            pairs = [things[serial][1] for serial in marked if things[serial][0] == "pair"]
            values = {value[1] for key, value in pairs if key[0] == value[0] == "thing" and key[1] in marked} - marked
            if not values:
                return sorted(marked)
            marked |= values
            todo += values

    def test_out_of_marking(self):
        for fence in FENCES:
            for heap in self.runs_of(fence):
                if heap.stage() != "marking":
                    wanted = "white" if heap.stage() == "rest" else "black"
                    self.assertEqual(set(heap.colours().values()) - {wanted}, set())


class EveryCuttingTellsTheSame(unittest.TestCase):
    def test_programs_without_look_and_hear(self):
        for seed in range(80):
            chance = random.Random(f"same {seed}")
            program = random_program(chance, 80, SAFE_WORDS)
            plain = PlainHeap()
            wanted = [outcome(plain, deed) for deed in program]
            for fence in FENCES:
                for turn in range(5):
                    answers, log = run(program, random_cutting(chance, 80), fence, *ROOMY)
                    self.assertEqual(answers, wanted)

    def test_in_small_memories_where_nothing_is_refused_for_want_of_room(self):
        compared = 0
        for seed in range(200):
            chance = random.Random(f"small {seed}")
            program = random_program(chance, 50, SAFE_WORDS, "abc")
            plain = PlainHeap()
            wanted = [outcome(plain, deed) for deed in program]
            for fence in FENCES:
                answers, log = run(program, random_cutting(chance, 50), fence, *chance.choice(((1, 40), (3, 14), (2, 24))))
                if "no room" not in answers:
                    self.assertEqual(answers, wanted)
                    compared += ("packed",) in log
        self.assertGreater(compared, 20)

    def test_the_same_run_twice(self):
        for seed in range(20):
            told = random_run(random.Random(f"twice {seed}"))
            self.assertEqual(run(*told), run(*told))


class GreatOnes(unittest.TestCase):
    def test_a_thousand_deeds(self):
        for fence in FENCES:
            chance = random.Random(f"great {fence}")
            program = random_program(chance, 1000, ALL_WORDS, "abcdefghij")
            answers, log = run(program, [1] * 1001, fence, 8, 100)
            self.assertTrue(lets_by(log))

    def test_a_thousand_things_in_a_row(self):
        for fence in FENCES:
            program = [("make", "a", 1), ("copy", "b", "a")]
            for number in range(332):
                program += [("make", "c", 1), ("put", "b", 0, "c"), ("copy", "b", "c")]
            answers, log = run(program, [0] * 900 + [1] * 100, fence, 10, 200)
            self.assertEqual(set(answers), {"ok"})
            self.assertTrue(lets_by(log))
            heap = Heap(10, 200, fence)
            for deed in program:
                heap.do(deed)
            self.assertEqual(whole_round(heap), [])
            heap.do(("drop", "a"))
            self.assertEqual(whole_round(heap), list(range(1, 333)))


if __name__ == "__main__":
    unittest.main()
