import unittest

from heapsafe.errors import NoDeed
from heapsafe.programs import deed_read, deed_shown, program_read, program_shown

SIXTY = 10**60 - 1
SIXTY_TOO = 10**59

DEEDS = (
    (("num", "a", 7), "num a 7"),
    (("num", "z", 0), "num z 0"),
    (("num", "m", SIXTY), "num m " + "9" * 60),
    (("make", "b", 0), "make b 0"),
    (("make", "b", 8), "make b 8"),
    (("weak", "c", "d"), "weak c d"),
    (("pair", "e", "f", "g"), "pair e f g"),
    (("words", "h", 3), "words h 3"),
    (("words", "h", SIXTY_TOO), "words h 1" + "0" * 59),
    (("put", "i", 4, "j"), "put i 4 j"),
    (("put", "i", SIXTY, "j"), "put i " + "9" * 60 + " j"),
    (("get", "k", "l", 5), "get k l 5"),
    (("get", "k", "l", SIXTY_TOO), "get k l 1" + "0" * 59),
    (("look", "m", "n"), "look m n"),
    (("find", "o", "p", "q"), "find o p q"),
    (("copy", "r", "s"), "copy r s"),
    (("drop", "t"), "drop t"),
    (("tell", "u"), "tell u"),
    (("same", "v", "w"), "same v w"),
    (("hear", "x"), "hear x"),
)
WORDS = ("num", "make", "weak", "pair", "words", "put", "get", "look", "find", "copy", "drop", "tell", "same", "hear")

NO_DEEDS = (
    "", " ", "\n", "  ", "a", "num", "num a", "num 7", "num 7 a", "num a b", "num a 7 7", "make a", "make a 9",
    "make a 10", "make a 00", "make a 08", "make a " + "1" + "0" * 59, "make a -1", "make a b", "weak a", "weak a 1",
    "weak a b c", "pair a b", "pair a b c d", "pair a b 1", "words a", "words a b", "put a 1", "put a b 1", "put 1 a b",
    "put a 1 b c", "get a b", "get a 1 b", "get a b c", "get a b 1 2", "look a", "look a b c", "find a b",
    "find a b c d", "copy a", "copy a b c", "drop", "drop a b", "drop 1", "tell", "tell a b", "tell aa", "same a",
    "same a b c", "hear", "hear a b", "num  a 7", "num a  7", " num a 7", "num a 7 ", " tell a", "tell a ", "tell  a",
    "num A 7", "NUM a 7", "Num a 7", "tell A", "tell `", "tell {", "tell a\n", "\ntell a", "tell\na", "tell\ta",
    "num a 07", "num a 00", "num a +7", "num a -7", "num a -0", "num a +0", "num a 7.0", "num a 1e3", "num a 1_0",
    "num a 0x1", "num a " + "9" * 61, "num a 1" + "0" * 60, "words a " + "1" * 61, "put a " + "1" * 61 + " b",
    "get a b " + "1" * 61, "put a 01 b", "get a b 01", "get a b +1", "tells a", "tel a", "free a", "clear a",
    "num,a,7", "num a 7;", "tell ab", "make  8", "make 8", "tell ~", "stage", "things", "num a ", "num  7",
    "deed", "no deed", "tell a tell a", "num a 7\nnum a 7",
)


class EachDeed(unittest.TestCase):
    def test_all_fourteen_are_among_those_tried(self):
        self.assertEqual({deed[0] for deed, text in DEEDS}, set(WORDS))
        self.assertEqual(len(WORDS), 14)

    def test_shown(self):
        for deed, text in DEEDS:
            self.assertEqual(deed_shown(deed), text)

    def test_read(self):
        for deed, text in DEEDS:
            told = deed_read(text)
            self.assertEqual(told, deed)
            self.assertIs(type(told), tuple)
            self.assertEqual([type(part) for part in told], [type(part) for part in deed])

    def test_every_root(self):
        for letter in "abcdefghijklmnopqrstuvwxyz":
            self.assertEqual(deed_read(f"same {letter} a"), ("same", letter, "a"))
            self.assertEqual(deed_read(f"same a {letter}"), ("same", "a", letter))

    def test_one_root_in_all_parts(self):
        self.assertEqual(deed_read("get a a 0"), ("get", "a", "a", 0))
        self.assertEqual(deed_read("pair a a a"), ("pair", "a", "a", "a"))

    def test_every_figure_and_every_length(self):
        for number in list(range(120)) + [10**at for at in range(60)] + [10**at - 1 for at in range(1, 61)]:
            self.assertEqual(deed_read(f"num a {number}"), ("num", "a", number))
            self.assertEqual(deed_shown(("num", "a", number)), f"num a {number}")

    def test_makes_from_0_to_8(self):
        for many in range(9):
            self.assertEqual(deed_read(f"make a {many}"), ("make", "a", many))


class WhatIsNoDeed(unittest.TestCase):
    def test_refused_with_row_1(self):
        for text in NO_DEEDS:
            with self.assertRaises(NoDeed, msg=repr(text)) as told:
                deed_read(text)
            self.assertEqual(told.exception.row, 1)

    def test_a_part_less_and_a_part_more(self):
        for deed, text in DEEDS:
            for wrong in (text.rpartition(" ")[0], text + " a", text + " 1", text.replace(" ", "  "), text.upper()):
                with self.assertRaises(NoDeed, msg=repr(wrong)):
                    deed_read(wrong)

    def test_roots_for_numbers_and_numbers_for_roots(self):
        for deed, text in DEEDS:
            words = text.split(" ")
            for at in range(1, len(words)):
                other = "1" if isinstance(deed[at], str) else "a"
                wrong = " ".join(words[:at] + [other] + words[at + 1:])
                with self.assertRaises(NoDeed, msg=repr(wrong)):
                    deed_read(wrong)


class Programs(unittest.TestCase):
    def test_whole_programs(self):
        deeds = [deed for deed, text in DEEDS]
        text = "\n".join(text for deed, text in DEEDS)
        self.assertEqual(program_shown(deeds), text)
        self.assertEqual(program_read(text), deeds)
        self.assertEqual(program_shown([("drop", "a")]), "drop a")
        self.assertEqual(program_read("drop a"), [("drop", "a")])

    def test_the_text_without_signs(self):
        self.assertEqual(program_read(""), [])
        self.assertEqual(program_shown([]), "")

    def test_a_thousand_rows(self):
        deeds = [("num", "a", at) for at in range(1000)]
        self.assertEqual(program_read(program_shown(deeds)), deeds)

    def refused_at(self, text):
        with self.assertRaises(NoDeed, msg=repr(text)) as told:
            program_read(text)
        return told.exception.row

    def test_each_wrong_row_alone_and_amid_others(self):
        for wrong in NO_DEEDS:
            if "\n" not in wrong:
                if wrong:
                    self.assertEqual(self.refused_at(wrong), 1)
                self.assertEqual(self.refused_at("tell a\n" + wrong), 2)
                self.assertEqual(self.refused_at("tell a\ntell b\n" + wrong + "\ntell c"), 3)

    def test_rows_without_signs(self):
        self.assertEqual(self.refused_at("\n"), 1)
        self.assertEqual(self.refused_at("\ntell a"), 1)
        self.assertEqual(self.refused_at("tell a\n"), 2)
        self.assertEqual(self.refused_at("tell a\n\ntell a"), 2)
        self.assertEqual(self.refused_at("tell a\ntell b\n\n"), 3)

    def test_the_first_of_several_is_told(self):
        self.assertEqual(self.refused_at("tell a\nbad\ntell b\nworse\n"), 2)
        self.assertEqual(self.refused_at("bad\nworse"), 1)
        self.assertEqual(self.refused_at("\n".join(["tell a"] * 999 + ["make a 9"])), 1000)

    def test_lists_are_the_askers_own(self):
        text = "tell a\ndrop b"
        told = program_read(text)
        told.append(("drop", "c"))
        told[0] = ("drop", "z")
        self.assertEqual(program_read(text), [("tell", "a"), ("drop", "b")])
        deeds = [("tell", "a")]
        program_shown(deeds)
        self.assertEqual(deeds, [("tell", "a")])
        self.assertIs(type(program_read("")), list)
        program_read("").append(1)
        self.assertEqual(program_read(""), [])


if __name__ == "__main__":
    unittest.main()
