import copy
import unittest

from heapsafe.looker import lets_by
from heapsafe.programs import deed_read

SIXTY = 10**60 - 1
BEGIN, END, PACKED = ("begin",), ("end",), ("packed",)


def deeds(*rows):
    """Rows `deed -> answer`; without an arrow the answer is ok."""
    log = []
    for row in rows:
        text, arrow, answer = row.partition(" -> ")
        log.append(("deed", deed_read(text), answer if arrow else "ok"))
    return log


def turn(kept=(), cleared=(), dropped=(), due=(), stays=(), cleared_too=(), dropped_too=()):
    return ("turn",) + tuple(list(part) for part in (kept, cleared, dropped, due, stays, cleared_too, dropped_too))


def freed(*serials):
    return ("freed", list(serials))


class LookerTest(unittest.TestCase):
    def assert_lets(self, *rows):
        self.assertIs(lets_by(list(rows)), True, rows)

    def assert_not(self, *rows):
        self.assertIs(lets_by(list(rows)), False, rows)


class DeedsAlone(LookerTest):
    def test_the_log_without_rows(self):
        self.assert_lets()

    def test_each_answer(self):
        self.assert_lets(*deeds("num a 5", "tell a -> 5", "tell b -> nothing", "make c 2", "tell c -> thing",
                                "same a c -> no", "same a a -> yes", "put c 0 a", "get d c 0", "tell d -> 5", "weak w c",
                                "look e w", "same e c -> yes", "pair p c a", "find f p c", "tell f -> 5", "words c 9",
                                "hear z -> none", "copy g c", "drop g", "tell g -> nothing", f"num a {SIXTY}",
                                "tell a -> " + "9" * 60))

    def test_each_refusal(self):
        self.assert_lets(*deeds("weak a b -> no thing", "put a 0 b -> no thing", "make a 1", "put a 1 b -> no field",
                                f"get b a {SIXTY} -> no field", "look b a -> no thing", "find b a a -> no thing",
                                "words c 1 -> no thing", "pair p x a -> no thing"))

    def test_wrong_answers(self):
        ahead = deeds("num a 5", "make b 1", "weak w b")
        for wrong in ("tell a -> 6", "tell a -> 05", "tell a -> ok", "tell a -> thing", "tell b -> nothing",
                      "tell x -> thing", "same a a -> no", "same a b -> yes", "num a 1 -> 1", "make c 0 -> thing",
                      "drop a -> nothing", "hear a -> 0", "hear a -> ok", "put b 0 a -> none", "tell a ->  5",
                      "look c w -> thing", "num a 1 -> OK", "tell b -> thing ", "num a 1 -> no"):
            self.assert_not(*ahead, *deeds(wrong))
        self.assert_not(("deed", ("num", "a", 1), ""))

    def test_wrong_refusals(self):
        ahead = deeds("make a 1", "num n 1")
        for wrong in ("put a 0 n -> no thing", "put a 0 n -> no field", "put a 1 n -> no thing", "put a 1 n -> ok",
                      "put n 0 a -> no field", "put n 5 a -> no field", "put n 0 a -> ok", "tell a -> no thing",
                      "make b 0 -> no thing", "make b 0 -> no field", "weak w n -> ok", "weak w a -> no thing"):
            self.assert_not(*ahead, *deeds(wrong))

    def test_one_wrong_row_among_good_ones(self):
        self.assert_not(*deeds("num a 5", "tell a -> 6", "tell a -> 5"))
        self.assert_not(*deeds("tell a -> ok"), *deeds("num a 5", "tell a -> 5"))

    def test_a_refused_deed_is_not_done(self):
        self.assert_lets(*deeds("make a 1", "num n 4", "weak n n -> no thing", "tell n -> 4", "get n a 3 -> no field",
                                "tell n -> 4", "make b 0"), BEGIN, turn([1, 2], stays=[1, 2]))


class NoRoom(LookerTest):
    def test_of_all_that_makes(self):
        self.assert_lets(*deeds("make a 0 -> no room", "make a 8 -> no room", "make a 0", "weak b a -> no room",
                                "pair b a a -> no room", "pair b a x -> no room"))

    def test_it_is_not_done_and_uses_up_no_serial(self):
        self.assert_lets(*deeds("make a 0 -> no room", "tell a -> nothing", "num b 1", "make b 0 -> no room",
                                "tell b -> 1", "make a 0"), BEGIN, turn([1], stays=[1]), END)
        self.assert_not(*deeds("make a 0 -> no room", "make a 0"), BEGIN, turn([2], stays=[2]))
        self.assert_not(*deeds("make a 0 -> no room"), BEGIN, turn([1], stays=[1]))

    def test_not_of_what_makes_nothing(self):
        ahead = deeds("make a 1", "weak w a", "pair p a a")
        for row in ("num b 1", "words a 1", "put a 0 a", "get b a 0", "look b w", "find b p a", "copy b a", "drop b",
                    "tell a", "same a a", "hear a"):
            self.assert_not(*ahead, *deeds(row + " -> no room"))

    def test_not_of_what_would_be_refused(self):
        self.assert_not(*deeds("weak a b -> no room"))
        self.assert_not(*deeds("pair a b b -> no room"))
        self.assert_not(*deeds("num a 1", "weak b a -> no room"))
        self.assert_not(*deeds("make a 0", "pair b x a -> no room"))
        self.assert_not(*deeds("put a 0 b -> no room"))


class WholeRounds(LookerTest):
    # 1 is held by root a, 2 by 1; 3 to 5 are not open.
    AHEAD = deeds("make a 1", "make b 0", "put a 0 b", "drop b", "make c 1", "make d 0", "put c 0 d", "drop c", "drop d",
                  "make e 0", "drop e")

    def test_of_plain_things(self):
        self.assert_lets(*self.AHEAD, BEGIN, turn([1, 2], stays=[1, 2]), freed(3), freed(), freed(4, 5), END, PACKED)

    def test_in_any_cuts(self):
        for rows in ((freed(3, 4, 5),), (freed(5), freed(3, 4)), (freed(4), freed(5), freed(3)), (freed(), freed(3, 4, 5))):
            self.assert_lets(*self.AHEAD, BEGIN, turn([1, 2], stays=[1, 2]), *rows, END)

    def test_logs_may_stop_amid_a_round(self):
        log = self.AHEAD + [BEGIN, turn([1, 2], stays=[1, 2]), freed(3), freed(4, 5), END, PACKED]
        for many in range(len(log) + 1):
            self.assert_lets(*log[:many])

    def test_deeds_within_a_round(self):
        self.assert_lets(*deeds("make a 1"), BEGIN, *deeds("make b 0", "put a 0 b", "drop b"), turn([1, 2], stays=[1, 2]),
                         *deeds("make c 0", "get d a 0", "drop c"), freed(), *deeds("make e 0"), END,
                         BEGIN, turn([1, 2, 4], stays=[1, 2, 4]), *deeds("drop e"), freed(3), END)

    def test_what_is_made_behind_the_turn_is_not_to_go(self):
        ahead = deeds("make a 0", "drop a") + [BEGIN, turn()] + deeds("make b 0", "drop b")
        self.assert_lets(*ahead, freed(1), END)
        self.assert_not(*ahead, freed(1, 2))
        self.assert_not(*ahead, freed(2))

    def test_several_rounds(self):
        self.assert_lets(*self.AHEAD, BEGIN, turn([1, 2], stays=[1, 2]), freed(3, 4, 5), END, *deeds("drop a"),
                         BEGIN, turn(), freed(1, 2), END, PACKED, PACKED, BEGIN, turn(), END, BEGIN, turn(), freed(), END)

    def test_greater_closed_sets_than_the_least(self):
        for kept in ([1, 2, 4], [1, 2, 3, 4], [1, 2, 5], [1, 2, 3, 4, 5]):
            gone = [serial for serial in (3, 4, 5) if serial not in kept]
            self.assert_lets(*self.AHEAD, BEGIN, turn(kept, stays=kept), freed(*gone), END)
        self.assert_lets(*self.AHEAD, BEGIN, turn([1, 2], stays=[1, 2, 3, 4]), freed(5), END)

    def test_kept_that_is_not_closed(self):
        for kept in ([1], [1, 2, 3], [1, 3, 4], [1, 2, 3, 5]):
            self.assert_not(*self.AHEAD, BEGIN, turn(kept, stays=kept))

    def test_kept_that_lacks_what_is_open(self):
        for kept in ([], [2], [3, 4], [2, 3, 4, 5]):
            self.assert_not(*self.AHEAD, BEGIN, turn(kept, stays=kept))
            self.assert_not(*self.AHEAD, BEGIN, turn(kept, stays=[1, 2, 3, 4, 5]))

    def test_stays_that_is_not_closed_or_lacks_kept(self):
        for stays in ([], [1], [2], [1, 2, 3], [3, 4]):
            self.assert_not(*self.AHEAD, BEGIN, turn([1, 2], stays=stays))

    def test_freed_of_what_stays(self):
        ahead = self.AHEAD + [BEGIN, turn([1, 2], stays=[1, 2, 5])]
        self.assert_lets(*ahead, freed(3, 4), END)
        for wrong in (freed(1), freed(2), freed(5), freed(3, 4, 5), freed(1, 3)):
            self.assert_not(*ahead, wrong)

    def test_freed_twice(self):
        ahead = self.AHEAD + [BEGIN, turn([1, 2], stays=[1, 2]), freed(3)]
        self.assert_not(*ahead, freed(3))
        self.assert_not(*ahead, freed(3, 4, 5))
        self.assert_lets(*ahead, freed(4, 5), END)

    def test_an_end_too_early(self):
        ahead = self.AHEAD + [BEGIN, turn([1, 2], stays=[1, 2])]
        self.assert_not(*ahead, END)
        self.assert_not(*ahead, freed(3, 5), END)
        self.assert_lets(*ahead, freed(3, 4, 5), END)

    def test_freed_ones_are_in_no_later_list(self):
        ahead = self.AHEAD + [BEGIN, turn([1, 2], stays=[1, 2]), freed(3, 4, 5), END, BEGIN]
        self.assert_lets(*ahead, turn([1, 2], stays=[1, 2]), END)
        self.assert_not(*ahead, turn([1, 2, 5], stays=[1, 2, 5]))
        self.assert_not(*ahead, turn([1, 2], stays=[1, 2, 5]))
        self.assert_not(*ahead, turn([1, 2, 3, 4], stays=[1, 2, 3, 4]))
        self.assert_not(*ahead, turn([1, 2], stays=[1, 2]), freed(5))


class PartsOfARound(LookerTest):
    def test_rows_in_the_wrong_part(self):
        out, marking = [], [BEGIN]
        sweeping = [BEGIN, turn()]
        for ahead, good in ((out, (BEGIN, PACKED)), (marking, (turn(),)), (sweeping, (freed(), END))):
            for row in (BEGIN, turn(), freed(), END, PACKED):
                self.assertIs(lets_by(ahead + [row]), row in good, (ahead, row))
        for row in (BEGIN, turn(), freed(), END, PACKED):
            self.assertIs(lets_by([BEGIN, turn(), END, row]), row in (BEGIN, PACKED))

    def test_deeds_are_let_by_in_every_part(self):
        row = deeds("num a 1")
        for ahead in ([], [BEGIN], [BEGIN, turn()], [BEGIN, turn(), freed()], [BEGIN, turn(), END], [PACKED]):
            self.assert_lets(*ahead, *row)


class ListsOfSerials(LookerTest):
    AHEAD = deeds("make a 0", "make b 0", "make c 0", "drop a", "drop b", "drop c")

    def test_of_freed(self):
        ahead = self.AHEAD + [BEGIN, turn()]
        self.assert_lets(*ahead, freed(1, 2, 3), END)
        for wrong in ([2, 1], [1, 1], [1, 2, 2], [3, 2, 1], [0], [0, 1], [-1], [4], [1, 2, 3, 4], [SIXTY], [1, 3, 2]):
            self.assert_not(*ahead, ("freed", wrong))

    def test_of_what_is_not_whole_numbers(self):
        ahead = self.AHEAD + [BEGIN, turn()]
        for wrong in ([True], [1, "2"], ["1"], [None], (1, 2), "1", None, 1, {}, [[1]], [1.0]):
            self.assert_not(*ahead, ("freed", wrong))
            self.assert_not(*self.AHEAD, BEGIN, ("turn", wrong, [], [], [], [], [], []))

    def test_of_each_list_of_a_turn(self):
        good = [[1, 2, 3], [], [], [], [1, 2, 3], [], []]
        self.assert_lets(*self.AHEAD, BEGIN, ("turn", *good))
        for at in range(7):
            for wrong in ([2, 1, 3], [1, 1, 2, 3], [1, 2, 3, 3], [0, 1, 2, 3], [1, 2, 3, 4], [0], [4], [1, 1]):
                self.assert_not(*self.AHEAD, BEGIN, ("turn", *good[:at], wrong, *good[at + 1:]))

    def test_one_that_is_made_only_behind_the_row(self):
        self.assert_not(BEGIN, turn([1], stays=[1]), *deeds("make a 0"))
        self.assert_not(BEGIN, turn(stays=[1]), *deeds("make a 0"))


class WeakThingsAndPairs(LookerTest):
    # Kept are 2 (weak, names 1), 4 (weak, names 3, which is kept), 5 (a pair by key 1), 6 (a pair by key 3).
    AHEAD = deeds("make a 0", "weak w a", "make t 0", "weak v t", "pair p a t", "pair q t t", "drop a")

    def test_let_by(self):
        self.assert_lets(*self.AHEAD, BEGIN, turn([2, 3, 4, 5, 6], [2], [5], [], [2, 3, 4, 5, 6]), freed(1), END,
                         *deeds("look x w", "tell x -> nothing", "find y p t", "tell y -> nothing",
                                "look x v", "tell x -> thing", "find y q t", "same y t -> yes"))

    def test_one_too_many_or_too_few(self):
        kept = [2, 3, 4, 5, 6]
        for cleared, dropped in (([], [5]), ([2], []), ([2, 4], [5]), ([4], [5]), ([2], [5, 6]), ([2], [6]), ([5], [2]),
                                 ([2, 5], []), ([], [2, 5]), ([2, 3], [5]), ([], [])):
            self.assert_not(*self.AHEAD, BEGIN, turn(kept, cleared, dropped, [], kept))

    def test_what_is_not_blind_in_a_greater_set(self):
        kept = [1, 2, 3, 4, 5, 6]
        self.assert_lets(*self.AHEAD, BEGIN, turn(kept, stays=kept))
        self.assert_not(*self.AHEAD, BEGIN, turn(kept, [2], [5], [], kept))

    def test_they_are_cleared_and_dropped_then(self):
        ahead = self.AHEAD + [BEGIN, turn([2, 3, 4, 5, 6], [2], [5], [], [2, 3, 4, 5, 6])]
        self.assert_not(*ahead, *deeds("look x w", "tell x -> thing"))
        self.assert_lets(*ahead, freed(1), END, BEGIN, turn([2, 3, 4, 5, 6], stays=[2, 3, 4, 5, 6]), END)
        self.assert_not(*ahead, freed(1), END, BEGIN, turn([2, 3, 4, 5, 6], [2], [5], [], [2, 3, 4, 5, 6]))

    def test_a_pair_by_whose_key_its_value_is_kept(self):
        ahead = deeds("make k 0", "make v 0", "pair p k v", "drop v")
        self.assert_lets(*ahead, BEGIN, turn([1, 2, 3], stays=[1, 2, 3]), END)
        self.assert_not(*ahead, BEGIN, turn([1, 3], stays=[1, 3]))
        self.assert_lets(*ahead, *deeds("drop k"), BEGIN, turn([3], [], [3], [], [3]), freed(1, 2), END)
        self.assert_lets(*ahead, *deeds("drop k"), BEGIN, turn([2, 3], [], [3], [], [2, 3]), freed(1), END)


class LastWords(LookerTest):
    # 1 has words and holds 2; 3 has words too; none of them is open. 4 is.
    AHEAD = deeds("make a 1", "words a 7", "make b 0", "put a 0 b", "make c 0", "words c 8", "make d 0", "words d 9",
                  "drop a", "drop b", "drop c")

    def test_let_by(self):
        self.assert_lets(*self.AHEAD, BEGIN, turn([4], due=[1, 3], stays=[1, 2, 3, 4]), freed(), END,
                         *deeds("hear x -> 7", "hear y -> 8", "hear z -> none", "get b x 0", "tell b -> thing"),
                         BEGIN, turn([1, 2, 3, 4], stays=[1, 2, 3, 4]), END)

    def test_one_too_many_or_too_few(self):
        for due in ([], [1], [3], [1, 2, 3], [1, 3, 4]):
            self.assert_not(*self.AHEAD, BEGIN, turn([4], due=due, stays=[1, 2, 3, 4]))

    def test_those_in_kept_are_not_due(self):
        self.assert_lets(*self.AHEAD, BEGIN, turn([3, 4], due=[1], stays=[1, 2, 3, 4]), END, *deeds("hear x -> 7", "hear x -> none"))
        self.assert_not(*self.AHEAD, BEGIN, turn([3, 4], due=[1, 3], stays=[1, 2, 3, 4]))

    def test_stays_has_the_due_ones_and_is_closed(self):
        for stays in ([4], [1, 3, 4], [1, 2, 4], [3, 4], [1, 2, 3]):
            self.assert_not(*self.AHEAD, BEGIN, turn([4], due=[1, 3], stays=stays))

    def test_they_are_heard_by_rising_serials(self):
        ahead = self.AHEAD + [BEGIN, turn([4], due=[1, 3], stays=[1, 2, 3, 4])]
        self.assert_not(*ahead, *deeds("hear x -> 8"))
        self.assert_lets(*ahead, *deeds("hear x -> 7"))

    def test_they_are_open_while_in_the_row(self):
        ahead = self.AHEAD + [BEGIN, turn([4], due=[1, 3], stays=[1, 2, 3, 4]), END]
        self.assert_not(*ahead, BEGIN, turn([4], stays=[4]))
        self.assert_lets(*ahead, *deeds("hear x -> 7", "hear x -> 8", "drop x"), BEGIN, turn([4], stays=[4]), freed(1, 2, 3), END)

    def test_words_are_gone_when_they_were_due(self):
        ahead = self.AHEAD + [BEGIN, turn([4], due=[1, 3], stays=[1, 2, 3, 4]), END]
        ahead += deeds("hear x -> 7", "hear x -> 8", "drop x") + [BEGIN]
        self.assert_not(*ahead, turn([4], due=[1, 3], stays=[1, 2, 3, 4]))

    def test_given_again_and_due_once_more(self):
        ahead = deeds("make a 0", "words a 7", "drop a") + [BEGIN, turn(due=[1], stays=[1]), END]
        ahead += deeds("hear a -> 7", "words a 0", "drop a") + [BEGIN, turn(due=[1], stays=[1]), END]
        self.assert_lets(*ahead, *deeds("hear a -> 0", "hear a -> none"))

    def test_freed_ones_are_not_due(self):
        ahead = deeds("make a 0", "drop a") + [BEGIN, turn(), freed(1), END]
        self.assert_lets(*ahead, BEGIN, turn(), END)

    def test_a_kept_weak_thing_is_cleared_though_its_thing_stays(self):
        ahead = deeds("make a 0", "words a 7", "weak w a", "pair p a a", "drop a") + [BEGIN]
        self.assert_lets(*ahead, turn([2, 3], [2], [3], [1], [1, 2, 3]), END)
        self.assert_not(*ahead, turn([2, 3], [], [], [1], [1, 2, 3]))
        self.assert_not(*ahead, turn([2, 3], [], [], [1], [1, 2, 3], [2], [3]))
        self.assert_not(*ahead, turn([2, 3], [2], [3], [1], [1, 2, 3], [2], [3]))

    # 1 is due and holds 3 (weak, names 2) and 4 (a pair by key 2); 2 goes.
    TOO = deeds("make a 2", "words a 7", "make t 0", "weak w t", "pair p t a", "put a 0 w", "put a 1 p", "drop a",
                "drop t", "drop w", "drop p") + [BEGIN]

    def test_cleared_and_dropped_too(self):
        self.assert_lets(*self.TOO, turn(due=[1], stays=[1, 3, 4], cleared_too=[3], dropped_too=[4]), freed(2), END,
                         *deeds("hear a -> 7", "get w a 0", "look x w", "tell x -> nothing", "get p a 1", "find x p w",
                                "tell x -> nothing"), BEGIN, turn([1, 3, 4], stays=[1, 3, 4]), END)
        for cleared, dropped in (([], [4]), ([3], []), ([3, 4], []), ([], [3, 4]), ([1, 3], [4]), ([3], [1, 4]), ([4], [3])):
            self.assert_not(*self.TOO, turn(due=[1], stays=[1, 3, 4], cleared_too=cleared, dropped_too=dropped))

    def test_a_greater_stays_in_which_they_are_not_blind(self):
        self.assert_lets(*self.TOO, turn(due=[1], stays=[1, 2, 3, 4]), END)
        self.assert_not(*self.TOO, turn(due=[1], stays=[1, 2, 3, 4], cleared_too=[3], dropped_too=[4]))


class RowsOfOtherForms(LookerTest):
    def test_more_or_fewer_parts(self):
        deed = ("num", "a", 1)
        for wrong in (("deed",), ("deed", deed), ("deed", deed, "ok", []), ("deed", deed, "ok", "ok"), ("begin", []),
                      ("begin", [1]), ("packed", []), ("freed",), ("turn",)):
            self.assert_not(wrong)
        for wrong in (("turn",), ("turn", []), ("turn", *[[]] * 6), ("turn", *[[]] * 8)):
            self.assert_not(BEGIN, wrong)
        for wrong in (("freed",), ("freed", [], []), ("end", []), ("end", [1])):
            self.assert_not(BEGIN, turn(), wrong)

    def test_unknown_words(self):
        for word in ("", "Begin", "begins", "begin ", "deeds", "stage", "free", "pack", "step"):
            self.assert_not((word,))
            self.assert_not((word, []))

    def test_deeds_of_other_forms(self):
        for wrong in ((), ("num",), ("num", "a"), ("num", 1, 1), ("num", "a", "b"), ("num", "a", True), ("nums", "a", 1),
                      ["num", "a", 1], "num a 1", None, (1, "a", 1), ("tell", "a", "b")):
            self.assert_not(("deed", wrong, "ok"))
            self.assert_not(("deed", wrong, "nothing"))


class TheLogStays(LookerTest):
    def test_whether_it_is_let_by_or_not(self):
        log = LastWords.TOO + [turn(due=[1], stays=[1, 3, 4], cleared_too=[3], dropped_too=[4]), freed(2), END, PACKED]
        for some in (log, log + [END], log + deeds("make z 0", "tell z -> nothing")):
            before = copy.deepcopy(some)
            self.assertIs(lets_by(some), lets_by(some))
            self.assertEqual(some, before)

    def test_each_looker_begins_anew(self):
        self.assert_lets(*deeds("make a 0"), BEGIN)
        self.assert_lets(*deeds("tell a -> nothing"), BEGIN)

    def test_five_thousand_rows(self):
        some = deeds("make a 0") + [BEGIN, turn([1], stays=[1]), freed(), END, PACKED] * 999
        self.assert_lets(*some)
        self.assert_not(*some, END)


if __name__ == "__main__":
    unittest.main()
