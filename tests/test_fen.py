"""Deeds in a fen: what they do, what they refuse, taken back and done again."""

import copy
import random
import unittest

from fenlevel import errors
from fenlevel.fen import Fen, fen_of
from tests.helpers import (all_asked, drawn_deed, drawn_deeds, plain_book, plain_refusal, refused, spoil, to_do_again)

HUGE = 10 ** 60
# So great that Python refuses to write it out.
UNWRITABLE = 10 ** 5000
START = [("mark", "a"), ("mark", "b"), ("mark", "c"), ("hand", "h"), ("hand", "k")]
# A deed of each kind that can be done behind START, run 1 standing and k set aside.
BEHIND = START + [("run", "a", "b", 5, "h"), ("aside", "k")]
EACH = [("mark", "d"), ("hand", "l"), ("run", "b", "c", -3, "k"), ("mend", 1, 7), ("strike", 1), ("settle", "b"),
        ("aside", "h"), ("heed", "k"), ("allow", 2)]


def mark_names(many):
    return ["m" + letter for letter in "abcdefghijklmnopqrstuvwxyz"[:many]]


def by_method(fen, row):
    """Does a deed by the method of its word."""
    return getattr(fen, row[0])(*row[1:])


class Refusing(unittest.TestCase):
    def check_refused(self, deeds, name, row):
        """A deed is refused by its method and by its tuple, and nothing has changed behind it."""
        with self.subTest(name=name, row=row[:1]):
            for do in (by_method, Fen.deed):
                fen = fen_of(deeds + [("allow", 1)])
                fen.back()
                ahead = all_asked(fen)
                self.assertIs(refused(do, fen, row), getattr(errors, name))
                self.assertEqual(all_asked(fen), ahead)
                self.assertEqual(fen.deeds(), deeds)
                self.assertEqual(to_do_again(fen), [("allow", 1)])

    def check_done(self, deeds, row):
        for do in (by_method, Fen.deed):
            fen = fen_of(deeds)
            number = do(fen, row)
            self.assertEqual(fen.deeds(), deeds + [row])
            if row[0] == "run":
                self.assertEqual(number, len([deed for deed in deeds if deed[0] == "run"]) + 1)
            else:
                self.assertIsNone(number)


class Deeds(Refusing):
    def test_each_kind_by_its_method_and_by_its_tuple(self):
        for row in EACH:
            self.check_done(BEHIND, row)

    def test_what_each_one_does(self):
        fen = fen_of(BEHIND)
        self.assertEqual((fen.marks(), fen.hands(), fen.asides()), (["a", "b", "c"], ["h", "k"], ["k"]))
        self.assertEqual(fen.stands(), [("a", 1), ("b", 1), ("c", 1)])
        self.assertEqual((fen.runs(), fen.counting(), fen.allowed()), ([(1, "a", 1, "b", 1, 5, "h")], [1], 0))
        self.assertIsNone(fen.mark("d"))
        self.assertEqual((fen.marks(), fen.stands()[-1]), (["a", "b", "c", "d"], ("d", 1)))
        self.assertIsNone(fen.hand("l"))
        self.assertEqual(fen.hands(), ["h", "k", "l"])
        self.assertEqual(fen.run("b", "c", -3, "k"), 2)
        self.assertEqual(fen.runs()[1:], [(2, "b", 1, "c", 1, -3, "k")])
        self.assertEqual(fen.counting(), [1])
        self.assertIsNone(fen.mend(1, 7))
        self.assertEqual(fen.runs(), [(1, "a", 1, "b", 1, 7, "h"), (2, "b", 1, "c", 1, -3, "k")])
        self.assertIsNone(fen.heed("k"))
        self.assertEqual((fen.asides(), fen.counting()), ([], [1, 2]))
        self.assertIsNone(fen.settle("b"))
        self.assertEqual(fen.stands()[3:], [("d", 1), ("b", 2)])
        self.assertEqual(fen.marks(), ["a", "b", "c", "d"])
        self.assertIsNone(fen.strike(1))
        self.assertEqual(fen.runs(), [(2, "b", 1, "c", 1, -3, "k")])
        self.assertIsNone(fen.aside("h"))
        self.assertEqual(fen.asides(), ["h"])
        self.assertIsNone(fen.allow(2))
        self.assertEqual(fen.allowed(), 2)

    def test_an_empty_fen(self):
        fen = Fen()
        self.assertEqual([fen.deeds(), fen.marks(), fen.hands(), fen.asides(), fen.stands(), fen.runs(),
                          fen.counting()], [[]] * 7)
        self.assertEqual(fen.allowed(), 0)

    def test_a_mark_and_a_hand_of_one_name(self):
        fen = fen_of([("mark", "a"), ("hand", "a"), ("mark", "b"), ("run", "a", "b", 1, "a")])
        self.assertEqual((fen.marks(), fen.hands()), (["a", "b"], ["a"]))

    def test_names(self):
        for word in ("mark", "hand"):
            for name in ("a", "z", "abcdefgh"):
                self.check_done([], (word, name))
            for name in ("", "abcdefghi", "A", "aB", "a1", "a b", " a", "a ", "a\n", "a-b", "\u00e9", "a" * 5000):
                self.check_refused([], "BadName", (word, name))

    def test_taken(self):
        self.check_refused(START, "Taken", ("mark", "b"))
        self.check_refused(START, "Taken", ("hand", "k"))
        self.check_refused(START + [("settle", "a")], "Taken", ("mark", "a"))
        self.check_refused(START + [("aside", "k")], "Taken", ("hand", "k"))
        self.check_done(START, ("mark", "h"))
        self.check_done(START, ("hand", "a"))

    def test_twelve_stands(self):
        marks = [("mark", name) for name in mark_names(12)]
        self.check_done(marks[:11], marks[11])
        self.check_done(marks[:11], ("settle", "ma"))
        self.check_refused(marks, "Full", ("mark", "x"))
        self.check_refused(marks, "Full", ("settle", "ma"))
        both = marks[:7] + [("settle", "ma")] * 4 + [("settle", "mg")]
        self.assertEqual(len(fen_of(both).stands()), 12)
        self.check_refused(both, "Full", ("mark", "x"))
        self.check_refused(both, "Full", ("settle", "mb"))
        self.check_done(both[:-1], ("mark", "x"))

    def test_ten_hands(self):
        hands = [("hand", name) for name in mark_names(10)]
        self.check_done(hands[:9], hands[9])
        self.check_refused(hands, "Full", ("hand", "x"))
        self.check_refused(hands + [("aside", "ma")], "Full", ("hand", "x"))

    def test_forty_runs_that_stand(self):
        runs = START + [("run", "a", "b", turn, "h") for turn in range(40)]
        last = ("run", "b", "a", 1, "k")
        self.check_done(runs[:-1], last)
        self.check_refused(runs, "Full", last)
        self.check_refused(runs + [("aside", "h")], "Full", last)
        self.check_done(runs + [("strike", 17)], last)
        with_struck = runs + [("strike", 1), ("strike", 40), last, last]
        fen = fen_of(with_struck)
        self.assertEqual([run[0] for run in fen.runs()], list(range(2, 40)) + [41, 42])
        self.check_refused(with_struck, "Full", last)
        self.check_done(with_struck, ("mend", 42, 0))

    def test_runs_refused(self):
        self.check_refused(START, "NoMark", ("run", "x", "b", 1, "h"))
        self.check_refused(START, "NoMark", ("run", "a", "x", 1, "h"))
        self.check_refused(START, "NoMark", ("run", "a", "", 1, "h"))
        self.check_refused(START, "NoMark", ("run", "h", "b", 1, "h"))
        self.check_refused(START, "Same", ("run", "b", "b", 1, "h"))
        self.check_refused(START + [("settle", "b")], "Same", ("run", "b", "b", 1, "h"))
        self.check_refused(START, "NoHand", ("run", "a", "b", 1, "x"))
        self.check_refused(START, "NoHand", ("run", "a", "b", 1, "a"))
        self.check_refused([], "NoMark", ("run", "a", "b", 1, "h"))

    def test_rises(self):
        for rise in (-1000000000, 1000000000, 0, -1, 999999999):
            self.check_done(START, ("run", "a", "b", rise, "h"))
            self.check_done(BEHIND, ("mend", 1, rise))
        for rise in (-1000000001, 1000000001, HUGE, -HUGE, UNWRITABLE, -UNWRITABLE):
            self.check_refused(START, "BadRise", ("run", "a", "b", rise, "h"))
            self.check_refused(BEHIND, "BadRise", ("mend", 1, rise))

    def test_no_run(self):
        for number in (0, -1, 2, HUGE, UNWRITABLE):
            self.check_refused(BEHIND, "NoRun", ("strike", number))
            self.check_refused(BEHIND, "NoRun", ("mend", number, 4))
        struck = BEHIND + [("run", "b", "c", 1, "h"), ("strike", 1)]
        self.check_refused(struck, "NoRun", ("strike", 1))
        self.check_refused(struck, "NoRun", ("mend", 1, 4))
        self.check_done(struck, ("mend", 2, 4))
        self.check_refused([], "NoRun", ("strike", 1))

    def test_settling_refused(self):
        for name in ("x", "h", "", "A"):
            self.check_refused(START, "NoMark", ("settle", name))

    def test_setting_aside_refused(self):
        for word in ("aside", "heed"):
            for name in ("x", "a", "", "H"):
                self.check_refused(START, "NoHand", (word, name))
        self.check_refused(START + [("aside", "h")], "Aside", ("aside", "h"))
        self.check_refused(START, "NotAside", ("heed", "h"))
        self.check_refused(START + [("aside", "h"), ("heed", "h")], "NotAside", ("heed", "h"))
        self.check_done(START + [("aside", "h"), ("heed", "h")], ("aside", "h"))

    def test_allowing(self):
        for many in (0, 1, 2, 3):
            self.check_done(START, ("allow", many))
        for many in (-1, 4, HUGE, -HUGE, UNWRITABLE):
            self.check_refused(START, "BadNumber", ("allow", many))

    def test_the_refusal_that_goes_first(self):
        marks = [("mark", name) for name in mark_names(12)]
        hands = [("hand", name) for name in mark_names(10)]
        runs = [("run", "ma", "mb", 1, "ma")] * 40
        full = marks + hands + runs
        self.check_refused(full, "BadName", ("mark", "A"))
        self.check_refused(full, "Taken", ("mark", "ma"))
        self.check_refused(full, "BadName", ("hand", "A"))
        self.check_refused(full, "Taken", ("hand", "ma"))
        self.check_refused(full, "NoMark", ("run", "x", "x", HUGE, "x"))
        self.check_refused(full, "NoMark", ("run", "ma", "x", HUGE, "x"))
        self.check_refused(full, "NoMark", ("run", "x", "ma", HUGE, "x"))
        self.check_refused(full, "Same", ("run", "ma", "ma", HUGE, "x"))
        self.check_refused(full, "NoHand", ("run", "ma", "mb", HUGE, "x"))
        self.check_refused(full, "BadRise", ("run", "ma", "mb", HUGE, "ma"))
        self.check_refused(full, "Full", ("run", "ma", "mb", 1, "ma"))
        self.check_refused(full, "NoRun", ("mend", 41, HUGE))
        self.check_refused(full, "NoMark", ("settle", "x"))
        self.check_refused(full + [("aside", "ma")], "NoHand", ("aside", "x"))
        self.check_refused(full, "NoHand", ("heed", "x"))


class RunNumbers(unittest.TestCase):
    def test_a_number_is_given_once(self):
        fen = fen_of(START)
        self.assertEqual([fen.run("a", "b", 1, "h") for turn in range(3)], [1, 2, 3])
        fen.strike(3)
        fen.strike(1)
        self.assertEqual(fen.run("b", "c", 1, "h"), 4)
        fen.strike(4)
        self.assertEqual(fen.run("b", "c", 1, "h"), 5)
        self.assertEqual([run[0] for run in fen.runs()], [2, 5])

    def test_a_run_taken_back_gives_its_number_to_the_next(self):
        fen = fen_of(START)
        self.assertEqual(fen.run("a", "b", 1, "h"), 1)
        self.assertEqual(fen.run("a", "b", 2, "h"), 2)
        fen.back()
        self.assertEqual(fen.run("c", "b", 9, "k"), 2)
        self.assertEqual(fen.runs()[1], (2, "c", 1, "b", 1, 9, "k"))
        fen.strike(2)
        fen.back()
        self.assertEqual(fen.run("c", "b", 9, "k"), 3)

    def test_a_refused_run_takes_no_number(self):
        fen = fen_of(START)
        self.assertIs(refused(fen.run, "a", "b", HUGE, "h"), errors.BadRise)
        self.assertEqual(fen.run("a", "b", 1, "h"), 1)

    def test_a_mended_run_keeps_its_place_and_its_number(self):
        fen = fen_of(START + [("run", "a", "b", rise, "h") for rise in (1, 2, 3)] + [("settle", "a")])
        fen.mend(2, -8)
        self.assertEqual(fen.runs(), [(1, "a", 1, "b", 1, 1, "h"), (2, "a", 1, "b", 1, -8, "h"),
                                      (3, "a", 1, "b", 1, 3, "h")])
        fen.mend(2, -8)
        self.assertEqual(len(fen.deeds()), 11)


class Stands(unittest.TestCase):
    def test_runs_tell_of_the_stands_that_were_the_last_ones(self):
        fen = fen_of(START + [("run", "a", "b", 1, "h"), ("settle", "b"), ("run", "b", "a", 2, "h"), ("settle", "a"),
                              ("settle", "b"), ("run", "a", "b", 3, "k")])
        self.assertEqual(fen.stands(), [("a", 1), ("b", 1), ("c", 1), ("b", 2), ("a", 2), ("b", 3)])
        self.assertEqual(fen.runs(), [(1, "a", 1, "b", 1, 1, "h"), (2, "b", 2, "a", 1, 2, "h"),
                                      (3, "a", 2, "b", 3, 3, "k")])
        fen.mend(1, 4)
        self.assertEqual(fen.runs()[0], (1, "a", 1, "b", 1, 4, "h"))

    def test_asides_go_as_the_hands_came(self):
        fen = fen_of([("hand", name) for name in "zky"] + [("aside", name) for name in "ykz"])
        self.assertEqual(fen.asides(), ["z", "k", "y"])
        fen.heed("k")
        self.assertEqual(fen.asides(), ["z", "y"])
        fen.aside("k")
        self.assertEqual(fen.asides(), ["z", "k", "y"])


class BackAndAgain(unittest.TestCase):
    def test_each_kind(self):
        for row in EACH:
            with self.subTest(row=row):
                fen = fen_of(BEHIND)
                ahead = all_asked(fen)
                fen.deed(row)
                behind = all_asked(fen)
                self.assertNotEqual(behind, ahead)
                self.assertIsNone(fen.back())
                self.assertEqual(all_asked(fen), ahead)
                self.assertIsNone(fen.again())
                self.assertEqual(all_asked(fen), behind)

    def test_all_the_way(self):
        fen = Fen()
        seen = [all_asked(fen)]
        for row in BEHIND + EACH:
            fen.deed(row)
            seen.append(all_asked(fen))
        for wanted in seen[-2::-1]:
            fen.back()
            self.assertEqual(all_asked(fen), wanted)
        for wanted in seen[1:]:
            fen.again()
            self.assertEqual(all_asked(fen), wanted)

    def test_nothing_left(self):
        fen = Fen()
        self.assertIs(refused(fen.back), errors.NothingLeft)
        self.assertIs(refused(fen.again), errors.NothingLeft)
        fen.mark("a")
        self.assertIs(refused(fen.again), errors.NothingLeft)
        fen.back()
        self.assertIs(refused(fen.back), errors.NothingLeft)
        self.assertEqual(to_do_again(fen), [("mark", "a")])
        fen.again()
        self.assertIs(refused(fen.again), errors.NothingLeft)
        self.assertEqual(fen.deeds(), [("mark", "a")])

    def test_another_deed_leaves_nothing_to_do_again(self):
        fen = fen_of(BEHIND)
        fen.back()
        fen.back()
        fen.mark("d")
        self.assertIs(refused(fen.again), errors.NothingLeft)
        self.assertEqual(fen.deeds(), START + [("mark", "d")])
        fen.back()
        # What was taken back ahead of the other deed stays gone behind it.
        self.assertEqual(to_do_again(fen), [("mark", "d")])

    def test_the_same_deed_is_another_deed(self):
        fen = fen_of(BEHIND)
        fen.back()
        fen.back()
        fen.deed(BEHIND[-2])
        self.assertIs(refused(fen.again), errors.NothingLeft)

    def test_a_refused_deed_leaves_what_can_be_done_again(self):
        wrong = [("mark", "A"), ("mark", "a"), ("hand", ""), ("run", "a", "a", 1, "h"), ("strike", 9), ("mend", 9, 1),
                 ("settle", "x"), ("aside", "x"), ("heed", "h"), ("allow", 4)]
        for row in wrong:
            for do in (by_method, Fen.deed):
                fen = fen_of(BEHIND)
                fen.back()
                fen.back()
                ahead = all_asked(fen)
                self.assertIn(refused(do, fen, row).__name__, dir(errors))
                self.assertEqual(all_asked(fen), ahead)
                self.assertEqual(to_do_again(fen), BEHIND[-2:])

    def test_asking_leaves_what_can_be_done_again(self):
        fen = fen_of(BEHIND)
        fen.back()
        all_asked(fen)
        self.assertEqual(to_do_again(fen), BEHIND[-1:])


class Twins(unittest.TestCase):
    def pair(self):
        fen = fen_of(BEHIND)
        fen.back()
        return fen, fen.twin()

    def test_alike(self):
        fen, twin = self.pair()
        self.assertIsInstance(twin, Fen)
        self.assertEqual(all_asked(fen), all_asked(twin))
        self.assertEqual(to_do_again(fen), to_do_again(twin))

    def test_neither_is_touched_by_the_other(self):
        for row in EACH[:6]:
            for turn in (0, 1):
                pair = self.pair()
                changed, still = pair[turn], pair[1 - turn]
                ahead = all_asked(still)
                changed.deed(row)
                self.assertEqual(all_asked(still), ahead)
                self.assertEqual(to_do_again(still), [("aside", "k")])
                self.assertEqual(to_do_again(changed), [])

    def test_neither_is_touched_in_what_is_taken_back_and_done_again(self):
        for turn in (0, 1):
            pair = self.pair()
            changed, still = pair[turn], pair[1 - turn]
            ahead = all_asked(still)
            changed.back()
            changed.back()
            self.assertEqual(all_asked(still), ahead)
            self.assertEqual(to_do_again(still), [("aside", "k")])
            self.assertEqual(to_do_again(changed), BEHIND[-3:])
            changed.again()
            changed.again()
            changed.again()
            self.assertEqual(all_asked(still), ahead)
            self.assertEqual(to_do_again(still), [("aside", "k")])


class FenOf(unittest.TestCase):
    def test_deeds(self):
        fen = fen_of(BEHIND + EACH)
        self.assertEqual(fen.deeds(), BEHIND + EACH)
        self.assertIs(refused(fen.again), errors.NothingLeft)
        for turn in BEHIND + EACH:
            fen.back()
        self.assertEqual(all_asked(fen), all_asked(Fen()))
        self.assertEqual(all_asked(fen_of([])), all_asked(Fen()))

    def test_the_first_that_is_refused(self):
        self.assertIs(refused(fen_of, BEHIND + [("allow", 4), ("mark", "A")]), errors.BadNumber)
        self.assertIs(refused(fen_of, [("mark", "A"), ("allow", 4)]), errors.BadName)
        self.assertIs(refused(fen_of, [("heed", "h")]), errors.NoHand)

    def test_the_list_may_be_changed_behind_it(self):
        deeds = list(BEHIND)
        fen = fen_of(deeds)
        self.assertEqual(deeds, BEHIND)
        deeds.clear()
        self.assertEqual(fen.deeds(), BEHIND)
        fen.mark("x")
        self.assertEqual(deeds, [])


class NewLists(unittest.TestCase):
    def test_told_lists_may_be_changed(self):
        for allowed in (0, 1, 2):
            fen = fen_of(BEHIND + [("run", "a", "b", 6, "h"), ("run", "b", "c", 6, "h"), ("allow", allowed)])
            fen.back()
            fen.again()
            answers = all_asked(fen)
            wanted = copy.deepcopy(answers)
            spoil(answers)
            self.assertEqual(all_asked(fen), wanted)
            self.assertEqual(all_asked(fen.twin()), wanted)
            fen.back()
            fen.again()
            self.assertEqual(all_asked(fen), wanted)


class AsTheDocumentTells(unittest.TestCase):
    def check(self, fen, deeds, later):
        """A fen keeps these deeds and can do these later ones again; what it holds is checked by a plain way."""
        book = plain_book(deeds)
        self.assertEqual(fen.deeds(), deeds)
        self.assertEqual(to_do_again(fen), later)
        self.assertEqual(fen.stands(), book["stands"])
        self.assertEqual(fen.marks(), [name for name, turn in book["stands"] if turn == 1])
        self.assertEqual(fen.hands(), book["hands"])
        self.assertEqual(fen.asides(), [hand for hand in book["hands"] if hand in book["aside"]])
        self.assertEqual(fen.allowed(), book["allowed"])
        self.assertEqual(fen.runs(), [(number, *run) for number, run in book["runs"].items()])
        self.assertEqual(fen.counting(), [number for number, run in book["runs"].items()
                                          if run[5] not in book["aside"]])

    def walk(self, source, steps):
        """Any deeds, back and again in any order, refused ones too; which refusals there were."""
        fen, deeds, later, seen = Fen(), [], [], set()
        for step in range(steps):
            turn = source.randrange(10)
            if turn == 0:
                self.assertIs(refused(fen.back), None if deeds else errors.NothingLeft)
                later = deeds[-1:] + later
                deeds = deeds[:-1]
            elif turn == 1:
                self.assertIs(refused(fen.again), None if later else errors.NothingLeft)
                deeds, later = deeds + later[:1], later[1:]
            else:
                row = drawn_deed(source, plain_book(deeds))
                name = plain_refusal(plain_book(deeds), row)
                answer = refused(source.choice((by_method, Fen.deed)), fen, row)
                seen.add(name)
                if name is None:
                    deeds, later = deeds + [row], []
                    self.assertEqual(answer, plain_book(deeds)["entered"] if row[0] == "run" else None)
                else:
                    self.assertIs(answer, getattr(errors, name))
            self.check(fen, deeds, later)
        self.assertEqual(all_asked(fen), all_asked(fen_of(deeds)))
        return seen

    def test_any_deeds(self):
        source = random.Random(18)
        seen = set()
        for turn in range(30):
            seen |= self.walk(source, 120)
        self.assertEqual(seen, {None, "BadName", "Taken", "Full", "NoMark", "NoHand", "Same", "BadRise", "NoRun",
                                "Aside", "NotAside", "BadNumber"})

    def test_many_deeds(self):
        deeds = drawn_deeds(random.Random(19), 400)
        fen = fen_of(deeds)
        self.check(fen, deeds, [])
        for turn in range(300):
            fen.back()
        self.check(fen, deeds[:100], deeds[100:])
        for turn in range(150):
            fen.again()
        self.check(fen, deeds[:250], deeds[250:])


if __name__ == "__main__":
    unittest.main()
