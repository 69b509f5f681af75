import copy
import unittest

from heapsafe.errors import NoLog
from heapsafe.logs import log_read, log_shown
from heapsafe.programs import deed_read

SIXTY = 10**60 - 1
ANSWERS = ("ok", "yes", "no", "none", "thing", "nothing", "no thing", "no field", "no room", "0", "7", "9" * 60)
DEEDS = ("num a 7", f"num z {SIXTY}", "make b 0", "make b 8", "weak c d", "pair e f g", "words h 3", "put i 4 j", "get k l 5",
         "look m n", "find o p q", "copy r s", "drop t", "tell u", "same v w", "hear x")
ROWS = (
    (("begin",), "begin"),
    (("end",), "end"),
    (("packed",), "packed"),
    (("freed", []), "freed"),
    (("freed", [1]), "freed 1"),
    (("freed", [1, 2, 30]), "freed 1 2 30"),
    (("freed", [3, 1, 1, 0]), "freed 3 1 1 0"),
    (("freed", [SIXTY, 10**59]), "freed " + "9" * 60 + " 1" + "0" * 59),
    (("turn", [], [], [], [], [], [], []), "turn | | | | | | |"),
    (("turn", [1, 2], [], [3], [], [1, 2, 4], [], [5]), "turn | 1 2 | | 3 | | 1 2 4 | | 5"),
    (("turn", [1], [2], [3], [4], [5], [6], [7]), "turn | 1 | 2 | 3 | 4 | 5 | 6 | 7"),
    (("turn", [2, 1, 1], [0], [], [], [], [], [SIXTY]), "turn | 2 1 1 | 0 | | | | | " + "9" * 60),
)
NO_ROWS = (
    " ", "  ", "begins", "Begin", "BEGIN", " begin", "begin ", "begin 1", "begin  ", "end 1", "ends", "end ", "packed 1",
    "pack", "packed ", "deed", "freed ", "freed  1", "freed 1 ", "freed 1  2", " freed 1", "freed 01", "freed 00", "freed -1",
    "freed +1", "freed a", "freed |", "freed | 1", "freed 1,2", "freed " + "1" * 61, "freed1", "Freed 1", "turn", "turn ", "turn |",
    "turn | | | | | |", "turn | | | | | | | |", "turn | | | | | | | ", "turn  | | | | | | |", "turn | | | |  | | |",
    "turn 1 | | | | | | |", "turn 1 | 1 | | | | | | |", "turn || | | | | |", "turn | 01 | | | | | |", "turn | 1 2| | | | | |",
    "turn | 1 |2 | | | | |", "turn | a | | | | | |", "turn | -1 | | | | | |", "turn | | | | | | | " + "1" * 61,
    "turn| | | | | | |", " turn | | | | | | |", "tell a", "tell a ->", "tell a -> ", "tell a ->ok", "tell a-> ok",
    "tell a  -> ok", "tell a ->  ok", "tell a -> ok ", " tell a -> ok", "tell a -> OK", "tell a -> okay", "tell a -> no  thing",
    "tell a -> no roof", "tell a -> no thing ", "tell a -> no field no", "tell a -> 07", "tell a -> -1", "tell a -> " + "1" * 61,
    "tell a -> ok -> ok", "tell a -> ok ok", "tell a - > ok", "tell a => ok", "-> ok", " -> ok", "ok", "tell A -> ok", "tell a b -> ok",
    "make a 9 -> ok", "num a 07 -> ok", "num a " + "1" * 61 + " -> ok", "tells a -> ok", "begin -> ok", "freed 1 -> ok",
    "tell a -> begin", "tell a -> thing 1", "tell a -> let by", "steps 1 -> ok", "no room", "tell a\t-> ok",
)


class LogTest(unittest.TestCase):
    def refused_at(self, text):
        with self.assertRaises(NoLog, msg=repr(text)) as told:
            log_read(text)
        return told.exception.row


class EachRow(LogTest):
    def test_shown_and_read(self):
        for row, text in ROWS:
            self.assertEqual(log_shown([row]), text)
            self.assertEqual(log_read(text), [row])

    def test_any_answer_behind_any_deed(self):
        for text in DEEDS:
            for answer in ANSWERS:
                row = ("deed", deed_read(text), answer)
                self.assertEqual(log_shown([row]), text + " -> " + answer)
                self.assertEqual(log_read(text + " -> " + answer), [row])

    def test_the_log_without_rows(self):
        self.assertEqual(log_shown([]), "")
        self.assertEqual(log_read(""), [])

    def test_kinds(self):
        for row, text in ROWS:
            told = log_read(text)
            self.assertIs(type(told), list)
            self.assertIs(type(told[0]), tuple)
            for some in told[0][1:]:
                self.assertIs(type(some), list)
        told = log_read("num a 7 -> ok")[0]
        self.assertEqual([type(part) for part in told], [str, tuple, str])


class WholeLogs(LogTest):
    def test_all_rows_one_behind_the_other(self):
        log = [row for row, text in ROWS] + [("deed", deed_read(text), "no room") for text in DEEDS]
        text = "\n".join([text for row, text in ROWS] + [text + " -> no room" for text in DEEDS])
        self.assertEqual(log_shown(log), text)
        self.assertEqual(log_read(text), log)

    def test_five_thousand_rows(self):
        log = [("freed", [number, 0]) for number in range(5000)]
        self.assertEqual(log_read(log_shown(log)), log)

    def test_what_is_handed_in_stays_and_what_is_told_is_ones_own(self):
        log = [("freed", [2, 1]), ("turn", [1], [], [], [], [1], [], []), ("deed", ("tell", "a"), "ok")]
        before = copy.deepcopy(log)
        text = log_shown(log)
        self.assertEqual(log, before)
        told = log_read(text)
        told[0][1].append(9)
        told[1][1].clear()
        told.pop()
        self.assertEqual(log_read(text), before)
        lists = log_read("turn | | | | | | |")[0]
        lists[1].append(1)
        self.assertEqual(lists[2], [])


class WhatIsNoRow(LogTest):
    def test_alone_and_amid_others(self):
        for wrong in NO_ROWS:
            self.assertEqual(self.refused_at(wrong), 1)
            self.assertEqual(self.refused_at("begin\n" + wrong), 2)
            self.assertEqual(self.refused_at("begin\ntell a -> 1\n" + wrong + "\nend"), 3)

    def test_rows_without_signs(self):
        self.assertEqual(self.refused_at("\n"), 1)
        self.assertEqual(self.refused_at("begin\n"), 2)
        self.assertEqual(self.refused_at("\nbegin"), 1)
        self.assertEqual(self.refused_at("begin\n\nend"), 2)
        self.assertEqual(self.refused_at("begin\nend\n\n"), 3)

    def test_the_first_of_several_is_told(self):
        self.assertEqual(self.refused_at("begin\nbad\nworse\nend\n"), 2)
        self.assertEqual(self.refused_at("tell a\nmake a 9 -> ok"), 1)
        self.assertEqual(self.refused_at("\n".join(["end"] * 4999 + ["freed 01", "bad"])), 5000)

    def test_a_deed_without_an_answer(self):
        for text in DEEDS:
            self.assertEqual(self.refused_at(text), 1)
            self.assertEqual(self.refused_at(text + " -> maybe"), 1)

    def test_turns_of_six_and_of_eight_lists(self):
        self.assertEqual(self.refused_at("turn" + " | 1" * 6), 1)
        self.assertEqual(self.refused_at("turn" + " | 1" * 8), 1)
        self.assertEqual(log_read("turn" + " | 1" * 7), [("turn",) + ([1],) * 7])


if __name__ == "__main__":
    unittest.main()
