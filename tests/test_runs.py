import copy
import unittest

from heapsafe.heap import Heap
from heapsafe.looker import lets_by
from heapsafe.runs import run, whole_round
from helping import deeds_of, said

FENCES = ("new", "old")


def by_hand(program, cutting, fence, many, cells):
    """The log of the same, with a heap that is told each deed and each step."""
    heap = Heap(many, cells, fence)
    for at in range(len(program) + 1):
        for step in range(cutting[at] if at < len(cutting) else 0):
            heap.step()
        if at < len(program):
            try:
                heap.do(program[at])
            except ValueError:
                pass
    return heap.log()


class Runs(unittest.TestCase):
    PROGRAM = deeds_of("make a 1; make b 0; put a 0 b; drop b; tell a; tell b; get c a 0; same a c; put a 4 b; look c a; drop a; make d 1")

    def test_without_steps(self):
        for fence in FENCES:
            answers, log = run(self.PROGRAM, [], fence, 4, 16)
            self.assertEqual(answers, ["ok", "ok", "ok", "ok", "thing", "nothing", "ok", "no", "no field", "no thing", "ok", "ok"])
            self.assertEqual(log, [("deed", deed, answer) for deed, answer in zip(self.PROGRAM, answers)])

    def test_the_program_without_deeds(self):
        self.assertEqual(run([], [], "new", 1, 1), ([], []))
        self.assertEqual(run([], [2], "old", 1, 1), ([], [("begin",), ("turn", [], [], [], [], [], [], [])]))
        self.assertEqual(run([], [0, 5], "new", 1, 1), ([], []))

    def test_steps_ahead_of_deeds_and_behind_all(self):
        program = deeds_of("num a 1; tell a")
        first, second = ("deed", program[0], "ok"), ("deed", program[1], "1")
        begin, turned, freed, end = ("begin",), ("turn", [], [], [], [], [], [], []), ("freed", []), ("end",)
        for cutting, log in (
                ([], [first, second]),
                ([1], [begin, first, second]),
                ([0, 1], [first, begin, second]),
                ([0, 0], [first, second]),
                ([0, 0, 1], [first, second, begin]),
                ([1, 1, 1], [begin, first, turned, second, freed, end]),
                ([2, 0, 2], [begin, turned, first, second, freed, end, begin]),
                ([0, 0, 1, 9], [first, second, begin]),
                ([0, 0, 0, 9, 9, 9], [first, second])):
            self.assertEqual(run(program, cutting, "new", 1, 4), (["ok", "1"], log), cutting)

    def test_cuttings_shorter_as_long_and_longer(self):
        many = len(self.PROGRAM)
        for fence in FENCES:
            for length in (0, 1, 2, many - 1, many, many + 1, many + 2, many + 9):
                for entry in (0, 1, 2, 5):
                    cutting = [entry] * length
                    answers, log = run(self.PROGRAM, cutting, fence, 3, 7)
                    self.assertEqual(log, by_hand(self.PROGRAM, cutting, fence, 3, 7))
                    self.assertEqual(answers, [row[2] for row in log if row[0] == "deed"])
                    self.assertEqual(len(answers), many)
                    self.assertTrue(lets_by(log))

    def test_a_thousand_steps(self):
        answers, log = run(deeds_of("make a 0"), [1000], "new", 1, 3)
        self.assertEqual((answers, len(log)), (["ok"], 1334))

    def test_all_three_refusals(self):
        program = deeds_of("weak a b; make a 0; put a 0 a; make b 0")
        for fence in FENCES:
            answers, log = run(program, [], fence, 1, 5)
            self.assertEqual(answers, ["no thing", "ok", "no field", "no room"])
            self.assertEqual([row for row in log if row[0] == "deed"], [("deed", deed, answer) for deed, answer in zip(program, answers)])
            self.assertEqual([row[0] for row in log[3:]], ["begin", "turn", "freed", "end", "packed", "deed"])

    def test_the_fence_and_the_shape_are_as_told(self):
        program = deeds_of("make a 0; drop a")
        for fence, kept in (("new", []), ("old", [1])):
            answers, log = run(program, [1, 0, 1], fence, 1, 3)
            self.assertEqual(log[-1], ("turn", kept, [], [], [], kept, [], []))
        for many in (1, 2, 5):
            answers, log = run([], [many + 2], "new", many, 1)
            self.assertEqual([row[0] for row in log], ["begin", "turn"] + ["freed"] * many + ["end"])
        self.assertEqual(run(deeds_of("make a 2"), [], "new", 3, 4)[0], ["no room"])
        self.assertEqual(run(deeds_of("make a 2"), [], "new", 3, 5)[0], ["ok"])

    def test_what_is_handed_in_stays_and_both_lists_are_new(self):
        program, cutting = list(self.PROGRAM), [1, 2]
        before = copy.deepcopy((program, cutting))
        told = run(program, cutting, "new", 3, 7)
        again = copy.deepcopy(told)
        self.assertEqual((program, cutting), before)
        self.assertEqual([type(part) for part in (told, told[0], told[1])], [tuple, list, list])
        told[0].clear()
        for row in told[1]:
            for part in row[1:]:
                if isinstance(part, list):
                    part.append(99)
        told[1].clear()
        self.assertEqual(run(program, cutting, "new", 3, 7), again)
        self.assertEqual((program, cutting), before)


class WholeRounds(unittest.TestCase):
    def heap_of(self, text, fence="new", steps=0):
        heap = Heap(2, 9, fence)
        for deed in deeds_of(text):
            heap.do(deed)
        for step in range(steps):
            heap.step()
        return heap

    def test_at_rest(self):
        for fence in FENCES:
            heap = self.heap_of("make a 0; make b 0; make c 0; make d 0; drop a; drop c; drop d", fence)
            ahead = len(heap.log())
            self.assertEqual(whole_round(heap), [1, 3, 4])
            self.assertEqual(heap.log()[ahead:], [("begin",), ("turn", [2], [], [], [], [2], [], []), ("freed", [1, 3]),
                                                  ("freed", [4]), ("end",)])
            self.assertEqual((heap.stage(), sorted(heap.things())), ("rest", [2]))
            self.assertEqual(whole_round(heap), [])

    def test_of_an_empty_heap(self):
        self.assertEqual(whole_round(Heap(3, 3)), [])

    def test_amid_marking_and_sweeping_the_round_in_hand_is_ended_first(self):
        for fence in FENCES:
            for steps in (1, 2, 3, 4, 5):
                heap = self.heap_of("make a 0; make b 0; make c 0; drop a", fence, steps)
                self.assertNotEqual(heap.stage(), "rest")
                heap.do(("drop", "b"))
                told = whole_round(heap)
                words = [row[0] for row in heap.log() if row[0] != "deed"]
                self.assertEqual((words.count("begin"), words.count("end"), heap.stage()), (2, 2, "rest"))
                last = max(at for at, row in enumerate(heap.log()) if row == ("begin",))
                freed = sorted(serial for row in heap.log()[last:] if row[0] == "freed" for serial in row[1])
                self.assertEqual(told, freed)
                self.assertEqual(sorted(heap.things()), [3])
                self.assertTrue(lets_by(heap.log()))

    def test_only_what_is_freed_in_the_last_round_is_told(self):
        heap = self.heap_of("make a 0; make b 0; drop a", "new", 3)
        self.assertEqual(heap.stage(), "sweeping")
        said(heap, "drop b")
        self.assertEqual(whole_round(heap), [2])

    def test_serials_rise_over_the_rooms(self):
        heap = Heap(2, 3)
        for deed in deeds_of("make a 0; make b 0; drop a"):
            heap.do(deed)
        self.assertEqual(whole_round(heap), [1])
        for deed in deeds_of("make c 0; drop c; drop b"):
            heap.do(deed)
        self.assertEqual(heap.rooms_of(), {2: 1, 3: 0})
        self.assertEqual(whole_round(heap), [2, 3])

    def test_the_list_told_is_ones_own(self):
        heap = self.heap_of("make a 0; drop a")
        told = whole_round(heap)
        told.append(99)
        self.assertNotIn(99, [serial for row in heap.log() if row[0] == "freed" for serial in row[1]])


if __name__ == "__main__":
    unittest.main()
