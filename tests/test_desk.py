import unittest

from heapsafe.desk import Desk
from heapsafe.errors import NoDeed, NoField, NoRoom, NoThing

SIXTY = "9" * 60


def desk_of(*rows):
    desk = Desk()
    for row in rows:
        desk.say(row)
    return desk


def told(desk):
    """All that can be asked without a change."""
    return [desk.say(row) for row in ("stage", "things", "colours", "check", "tell a", "tell b", "tell c")]


class Deeds(unittest.TestCase):
    def test_answers_are_the_heaps(self):
        desk = Desk()
        for row, answer in (("num a 7", "ok"), ("tell a", "7"), ("tell b", "nothing"), ("make b 2", "ok"), ("tell b", "thing"),
                            ("same a b", "no"), ("same a a", "yes"), ("put b 0 a", "ok"), ("get c b 0", "ok"), ("tell c", "7"),
                            ("weak w b", "ok"), ("look d w", "ok"), ("same d b", "yes"), ("pair p b a", "ok"), ("find e p b", "ok"),
                            ("tell e", "7"), ("words b 0", "ok"), ("hear h", "none"), ("copy f b", "ok"), ("drop f", "ok"),
                            ("tell f", "nothing"), ("num a " + SIXTY, "ok"), ("tell a", SIXTY)):
            self.assertEqual(desk.say(row), answer, row)

    def test_refusals_are_the_heaps(self):
        desk = desk_of("memory 1 6 new", "make a 1")
        for row, refusal in (("weak b c", NoThing), ("put a 1 a", NoField), ("get b a " + SIXTY, NoField), ("make b 0", NoRoom),
                             ("look b a", NoThing)):
            with self.assertRaises(refusal) as caught:
                desk.say(row)
            self.assertIs(type(caught.exception), refusal)
        self.assertEqual(desk.say("check"), "let by")

    def test_words_are_heard(self):
        desk = desk_of("make a 0", "words a 12", "drop a", "round")
        self.assertEqual(desk.say("hear b"), "12")
        self.assertEqual(desk.say("hear b"), "none")


class AtFirst(unittest.TestCase):
    def test_what_is_told(self):
        self.assertEqual(told(Desk()), ["rest", "", "", "let by", "nothing", "nothing", "nothing"])

    def test_four_rooms_of_sixteen_cells(self):
        desk = Desk()
        for letter in "abcd":
            desk.say(f"make {letter} 8")
        with self.assertRaises(NoRoom):
            desk.say("make e 3")
        self.assertEqual(desk.say("make e 2"), "ok")

    def test_a_thing_of_eleven_cells_leaves_five(self):
        desk = desk_of("make a 8", "make b 8", "make c 8", "make d 8", "make a 2", "make b 2", "make c 2", "make d 2")
        self.assertEqual(desk.say("things"), "1 2 3 4 5 6 7 8")

    def test_the_fence_is_new(self):
        self.assertEqual(desk_of("steps 1", "make a 0").say("colours"), "1:white")


class Rows(unittest.TestCase):
    def test_memory(self):
        desk = desk_of("make a 0", "steps 1")
        self.assertEqual(desk.say("memory 2 5 old"), "ok")
        self.assertEqual(told(desk), ["rest", "", "", "let by", "nothing", "nothing", "nothing"])
        self.assertEqual(desk_of("memory 2 5 old", "steps 1", "make a 0").say("colours"), "1:black")
        self.assertEqual(desk_of("memory 2 5 new", "steps 1", "make a 0").say("colours"), "1:white")
        desk = desk_of("memory 2 5 new", "make a 2", "make b 2")
        with self.assertRaises(NoRoom):
            desk.say("make c 0")

    def test_memory_at_its_bounds(self):
        for row in ("memory 1 1 new", "memory 100 1000 old", "memory 1 1000 new", "memory 100 1 old"):
            self.assertEqual(Desk().say(row), "ok")
        desk = desk_of("memory 100 1 new")
        for number in range(102):
            self.assertEqual(desk.say("stage"), "rest" if number == 0 else "marking" if number == 1 else "sweeping")
            desk.say("steps 1")
        self.assertEqual(desk.say("stage"), "rest")

    def test_steps(self):
        desk = Desk()
        self.assertEqual((desk.say("steps 0"), desk.say("stage")), ("ok", "rest"))
        self.assertEqual((desk.say("steps 1"), desk.say("stage")), ("ok", "marking"))
        self.assertEqual((desk.say("steps 1"), desk.say("stage")), ("ok", "sweeping"))
        self.assertEqual((desk.say("steps 3"), desk.say("stage")), ("ok", "sweeping"))
        self.assertEqual((desk.say("steps 1"), desk.say("stage")), ("ok", "rest"))
        # An empty heap of four rooms has rounds of six steps.
        self.assertEqual((desk.say("steps 1000"), desk.say("stage")), ("ok", "sweeping"))

    def test_things_and_colours(self):
        desk = Desk()
        self.assertEqual((desk.say("things"), desk.say("colours")), ("", ""))
        desk = desk_of("make a 1", "make b 0", "put a 0 b", "make c 0", "drop b", "drop c", "weak d a")
        self.assertEqual((desk.say("things"), desk.say("colours")), ("1 2 3 4", "1:white 2:white 3:white 4:white"))
        desk.say("steps 2")
        self.assertEqual((desk.say("things"), desk.say("colours")), ("1 2 3 4", "1:black 2:grey 3:white 4:grey"))
        desk.say("steps 3")
        self.assertEqual((desk.say("stage"), desk.say("things"), desk.say("colours")), ("sweeping", "1 2 4", "1:black 2:black 4:black"))

    def test_they_rise_by_number_not_by_place_or_as_texts(self):
        desk = desk_of("memory 1 40 new", *[f"make {letter} 0" for letter in "abcdefghijkl"], "drop a", "round", "make m 0")
        self.assertEqual(desk.say("things"), "2 3 4 5 6 7 8 9 10 11 12 13")
        self.assertEqual(desk.say("colours"), " ".join(f"{serial}:white" for serial in range(2, 14)))

    def test_check(self):
        desk = desk_of("make a 1", "steps 1", "make b 0", "put a 0 b", "drop a", "steps 4", "round", "memory 1 6 old", "make a 3")
        self.assertEqual(desk.say("check"), "let by")

    def test_check_asks_the_looker(self):
        desk = desk_of("make a 0")
        desk.heap.rows.append(("end",))
        self.assertEqual(desk.say("check"), "not")

    def test_round(self):
        desk = desk_of("make a 0", "make b 0", "make c 0", "drop a", "drop c")
        self.assertEqual(desk.say("round"), "1 3")
        self.assertEqual((desk.say("stage"), desk.say("things"), desk.say("round")), ("rest", "2", ""))
        desk = desk_of("make a 0", "make b 0", "steps 2", "drop a", "drop b")
        self.assertEqual(desk.say("round"), "1 2")

    def test_answers_are_texts(self):
        desk = Desk()
        for row in ("num a 7", "tell a", "memory 1 3 new", "steps 2", "stage", "things", "colours", "check", "round"):
            self.assertIs(type(desk.say(row)), str)

    def test_two_desks_have_nothing_in_common(self):
        one, other = Desk(), Desk()
        one.say("make a 0")
        one.say("steps 1")
        self.assertEqual((other.say("things"), other.say("stage")), ("", "rest"))


class Refused(unittest.TestCase):
    ROWS = (
        "", " ", "\n", "memory", "memory 4", "memory 4 16", "memory 4 16 new old", "memory 0 16 new", "memory 101 16 new",
        "memory 4 0 new", "memory 4 1001 new", "memory 4 16 grey", "memory 4 16 New", "memory 4 16 ", "memory  4 16 new",
        "memory 4 16  new", " memory 4 16 new", "memory 4 16 new ", "memory 04 16 new", "memory 4 016 new", "memory -4 16 new",
        "memory +4 16 new", "memory a 16 new", "memory 4 a new", "memory new 4 16", "memory 4 16 new\n", f"memory {SIXTY} 1 new",
        f"memory 1 {SIXTY}9 new", "memory 4,16 new x", "Memory 4 16 new", "memory 00 16 new", "memory 1.0 16 new",
        "steps", "steps 1001", "steps -1", "steps +1", "steps 01", "steps 00", "steps a", "steps 1 1", "steps  1", " steps 1",
        "steps 1 ", "steps ", f"steps {SIXTY}", f"steps {SIXTY}9", "steps 1\n", "step 1", "Steps 1", "steps 1000000", "steps 1_0",
        "stage ", " stage", "stage 1", "stages", "STAGE", "stage\n", "things ", "things 1", "thing", "colours 1", "colours ",
        "colour", "colors", "check ", "check 1", "checks", "round ", "round 1", "rounds", "round\n", "log", "roots", "pack", "begin",
        "num a", "num a 07", "make a 9", "tell A", "tell a ", " tell a", "tell  a", "tell a\n", "tell a\ntell b", "tell a -> ok",
        "num a " + "1" * 61, "free a", "help",
    )

    def test_all_other_rows(self):
        for row in self.ROWS:
            desk = desk_of("num a 3", "make b 1", "steps 1")
            before = told(desk)
            with self.assertRaises(NoDeed, msg=repr(row)) as caught:
                desk.say(row)
            self.assertEqual(caught.exception.row, 1)
            self.assertEqual(told(desk), before)

    def test_what_is_no_text(self):
        for row in (None, 1, 0, True, False, ("tell", "a"), ["tell a"], {"tell": "a"}, [], (), {}, b"tell a", 1.5, Desk(), str):
            desk = desk_of("num a 3", "make b 1", "steps 1")
            before = told(desk)
            with self.assertRaises(NoDeed) as caught:
                desk.say(row)
            self.assertEqual(caught.exception.row, 1)
            self.assertEqual(told(desk), before)


if __name__ == "__main__":
    unittest.main()
