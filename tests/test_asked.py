"""What is asked of a fen: heights, papers, readings, groups, parting, foes."""

import itertools
import random
import unittest

from fenlevel import errors
from fenlevel.fen import Fen, fen_of
from fenlevel.papers import shows_none, shows_rise
from fenlevel.parting import foe, parting
from fenlevel.readings import false_sets, is_reading, least
from fenlevel.sure import sure_groups, told
from tests.helpers import (all_asked, check_call, drawn_deeds, plain_book, plain_false_sets, plain_parting,
                           plain_place, plain_runs, plain_told, plain_turns, plain_views, refused, with_rises,
                           worst_cases)

# The names go against the order in which marks and hands come. Run 3 is struck and hand yan set aside, so that
# neither numbers nor hands lie as their places do.
DEEDS = [("mark", "pole"), ("mark", "oak"), ("mark", "barn"), ("hand", "zed"), ("hand", "yan"), ("hand", "kim"),
         ("hand", "ann"), ("run", "pole", "oak", 99, "yan"), ("run", "pole", "oak", 5, "zed"),
         ("run", "pole", "barn", 1, "kim"), ("strike", 3), ("run", "oak", "pole", -5, "kim"),
         ("run", "pole", "oak", 6, "ann"), ("run", "oak", "barn", 2, "kim"), ("run", "oak", "barn", 2, "zed"),
         ("aside", "yan")]


def paper_by_numbers(fen, paper):
    """A paper as it is in the functions on numbers."""
    kind, mark, line, rest = paper
    return (kind, fen.stands().index(mark), tuple(fen.counting().index(number) for number in line),
            tuple((fen.hands().index(hand), paper_by_numbers(fen, inner)) for hand, inner in rest))


def reading_by_numbers(fen, reading):
    """A reading as it is in the functions on numbers."""
    false, heights = reading
    return [fen.hands().index(hand) for hand in false], heights


def without_great_rises(deeds):
    """Deeds of which more runs close; what goes by the numbers of runs is left out, as these are others now."""
    return [row for row in deeds if row[0] not in ("mend", "strike") and not (row[0] == "run" and abs(row[3]) > 5)]


class Asking(unittest.TestCase):
    def check_paper(self, fen, size, runs, one, other, ends, wanted):
        paper = check_call(self, fen.paper, one, other)
        if wanted[0] == "open":
            self.assertIsNone(paper)
            return
        paper = paper_by_numbers(fen, paper)
        if wanted[0] == "none":
            self.assertTrue(shows_none(size, runs, paper, fen.allowed()))
        else:
            self.assertTrue(shows_rise(size, runs, paper, fen.allowed(), *ends, wanted[1]))
            self.assertFalse(shows_none(size, runs, paper, fen.allowed()))

    def check_two(self, fen, size, runs, ends, pair):
        """Two readings by names that differ between two stands."""
        self.assertIsInstance(pair, tuple)
        rises = []
        for reading in pair:
            false, heights = reading
            self.assertIsInstance(reading, tuple)
            self.assertIsInstance(false, list)
            self.assertIsInstance(heights, list)
            self.assertTrue(is_reading(size, runs, fen.allowed(), reading_by_numbers(fen, reading)))
            rises.append(heights[ends[1]] - heights[ends[0]])
        self.assertNotEqual(*rises)

    def check_pair(self, fen, book, views, one, other):
        size, runs, ends = len(book["stands"]), plain_runs(book), (plain_place(book, one), plain_place(book, other))
        wanted = plain_told(views, *ends)
        self.assertEqual(check_call(self, fen.height, one, other), wanted)
        self.check_paper(fen, size, runs, one, other, ends, wanted)
        pair = check_call(self, fen.readings, one, other)
        self.assertEqual(pair is None, wanted[0] != "open")
        if pair is not None:
            self.check_two(fen, size, runs, ends, pair)
        numbers = plain_parting(size, runs, 2 * book["allowed"], [ends])[ends]
        names = None if numbers is None else [book["hands"][number] for number in numbers]
        self.assertEqual(check_call(self, fen.parting, one, other), names)
        answer = check_call(self, fen.foe, one, other)
        self.assertEqual(answer is None, numbers is None)
        if answer is not None:
            rises, first, second = answer
            self.assertIsInstance(rises, list)
            self.assertEqual(len(rises), len(fen.counting()))
            self.check_two(fen, size, with_rises(runs, rises), ends, (first, second))

    def check_groups(self, fen, book, views):
        groups = check_call(self, fen.groups)
        if not views:
            self.assertIsNone(groups)
            return
        marks, wanted = fen.marks(), []
        for name in marks:
            group = [each for each in marks if plain_told(views, plain_place(book, name),
                                                          plain_place(book, each))[0] == "sure"]
            if group[0] == name:
                wanted.append(group)
        self.assertEqual(groups, wanted)

    def check(self, deeds, pairs=None):
        """All that can be asked of a fen, by plain ways; the fen."""
        fen, book = fen_of(deeds), plain_book(deeds)
        size, runs, many = len(book["stands"]), plain_runs(book), book["allowed"]
        views = plain_views(size, runs, many)
        with self.subTest(deeds=deeds):
            self.assertEqual(check_call(self, fen.false_sets), [
                [book["hands"][number] for number in struck] for struck in plain_false_sets(size, runs, many)])
            self.assertEqual(check_call(self, fen.least), min(map(len, plain_false_sets(size, runs, 10))))
            self.check_groups(fen, book, views)
            for one, other in pairs or itertools.product(fen.marks(), repeat=2):
                self.check_pair(fen, book, views, one, other)
            for name in fen.marks():
                turns = plain_turns(book, name)
                answer = refused(fen.sank, name)
                if len(turns) == 1:
                    self.assertIs(answer, errors.Steady)
                else:
                    elder = book["stands"].index((name, turns[-2]))
                    self.assertEqual(answer, plain_told(views, elder, plain_place(book, name)))
        return fen


class Heights(Asking):
    def test_numbers_stands_and_names(self):
        fen = self.check(DEEDS + [("allow", 1)])
        self.assertEqual(fen.counting(), [2, 4, 5, 6, 7])
        self.assertEqual(fen.height("pole", "oak"), ("sure", 5))
        self.assertEqual(fen.height("oak", "pole"), ("sure", -5))
        self.assertEqual(fen.height("pole", "barn"), ("sure", 7))
        self.assertEqual(fen.false_sets(), [["ann"]])
        self.assertEqual((fen.least(), fen.groups()), (1, [["pole", "oak", "barn"]]))
        kind, stand, line, rest = fen.paper("pole", "barn")
        self.assertIn(stand, fen.stands())
        self.assertLessEqual(set(line), set(fen.counting()))
        self.assertLessEqual({hand for hand, inner in rest}, {"zed", "kim", "ann"})

    def test_as_many_as_are_allowed_for(self):
        fen = self.check(DEEDS)
        self.assertEqual((fen.height("pole", "oak"), fen.groups(), fen.false_sets()), (("none",), None, []))
        self.assertEqual(fen.height("barn", "barn"), ("none",))
        self.assertEqual(fen.least(), 1)
        fen = self.check(DEEDS + [("allow", 2)])
        self.assertEqual((fen.height("pole", "oak"), fen.height("oak", "barn")), (("open",), ("open",)))
        self.assertEqual(fen.groups(), [["pole"], ["oak"], ["barn"]])
        self.assertEqual(fen.false_sets(), [["ann"], ["zed", "kim"], ["zed", "ann"], ["kim", "ann"]])
        self.check(DEEDS + [("allow", 3)])
        self.check(DEEDS + [("allow", 3), ("allow", 0)])

    def test_false_sets_and_parting_go_as_the_hands_came(self):
        fen = self.check([("mark", "a"), ("mark", "b"), ("hand", "z"), ("hand", "b"), ("hand", "y"), ("allow", 2),
                          ("run", "a", "b", 1, "y"), ("run", "a", "b", 2, "b"), ("run", "a", "b", 2, "z")])
        self.assertEqual(fen.false_sets(), [["y"], ["z", "b"], ["z", "y"], ["b", "y"]])
        self.assertEqual(fen.parting("a", "b"), ["z", "b", "y"])

    def test_the_rest_of_a_paper_goes_as_the_hands_came(self):
        fen = fen_of([("mark", "a"), ("mark", "b"), ("mark", "c"), ("hand", "z"), ("hand", "b"), ("hand", "k"),
                      ("hand", "a"), ("allow", 1), ("run", "a", "b", 1, "b"), ("run", "b", "c", 1, "z"),
                      ("run", "a", "c", 2, "a"), ("run", "a", "c", 2, "k")])
        found = [[hand for hand, inner in fen.paper(*pair)[3]] for pair in (("a", "c"), ("c", "a"))]
        for names in found:
            self.assertEqual(names, [name for name in fen.hands() if name in names])

    def test_a_mark_and_itself(self):
        fen = self.check(DEEDS + [("allow", 1)])
        for name in fen.marks():
            self.assertEqual(fen.height(name, name), ("sure", 0))
            self.assertIsNotNone(fen.paper(name, name))
            self.assertEqual((fen.readings(name, name), fen.parting(name, name), fen.foe(name, name)),
                             (None, None, None))

    def test_no_mark(self):
        fen = fen_of(DEEDS)
        for ask in (fen.height, fen.paper, fen.readings, fen.parting, fen.foe):
            for one, other in [("x", "oak"), ("oak", "x"), ("x", "x"), ("", "oak"), ("oak", "kim"), ("OAK", "oak")]:
                self.assertIs(refused(ask, one, other), errors.NoMark)
        for ask in (Fen().height, Fen().paper, Fen().readings, Fen().parting, Fen().foe):
            self.assertIs(refused(ask, "a", "a"), errors.NoMark)

    def test_a_fen_without_marks(self):
        for deeds in ([], [("hand", "h"), ("allow", 3)], [("hand", "h"), ("aside", "h")]):
            fen = self.check(deeds)
            self.assertEqual((fen.false_sets(), fen.least(), fen.groups()), ([[]], 0, []))

    def test_marks_without_runs(self):
        fen = self.check([("mark", "b"), ("mark", "a"), ("hand", "h"), ("allow", 2)])
        self.assertEqual((fen.false_sets(), fen.least(), fen.groups()), ([[]], 0, [["b"], ["a"]]))
        self.assertEqual((fen.height("a", "b"), fen.height("a", "a")), (("open",), ("sure", 0)))
        self.assertEqual((fen.paper("a", "b"), fen.parting("a", "b")), (None, []))
        self.assertEqual(fen.foe("a", "b")[0], [])


class Stands(Asking):
    SUNK = [("mark", "a"), ("mark", "b"), ("mark", "c"), ("hand", "h"), ("hand", "k"), ("run", "a", "b", 5, "h"),
            ("run", "b", "c", 1, "k"), ("settle", "b")]

    def test_what_is_asked_of_marks_is_asked_of_their_last_stands(self):
        fen = self.check(self.SUNK)
        self.assertEqual(fen.height("a", "c"), ("sure", 6))
        self.assertEqual((fen.height("a", "b"), fen.sank("b")), (("open",), ("open",)))
        self.assertEqual(fen.groups(), [["a", "c"], ["b"]])
        fen = self.check(self.SUNK + [("run", "a", "b", 3, "h")])
        self.assertEqual((fen.height("a", "b"), fen.height("b", "c")), (("sure", 3), ("sure", 3)))
        self.assertEqual(fen.sank("b"), ("sure", -2))
        self.assertEqual(fen.groups(), [["a", "b", "c"]])
        self.assertEqual(len(self.check(self.SUNK + [("allow", 1)]).readings("a", "b")[0][1]), 4)

    def test_sank_from_the_last_stand_but_one(self):
        deeds = self.SUNK + [("run", "a", "b", 3, "h"), ("settle", "b"), ("run", "c", "b", 10, "k")]
        fen = self.check(deeds)
        self.assertEqual((fen.sank("b"), fen.height("a", "b")), (("sure", 13), ("sure", 16)))
        fen = self.check(deeds + [("run", "c", "b", 9, "h")])
        self.assertEqual(fen.sank("b"), ("none",))
        fen = self.check(deeds + [("run", "c", "b", 9, "h"), ("allow", 1)])
        self.assertEqual(fen.sank("b"), ("open",))

    def test_sank_refused(self):
        fen = fen_of(self.SUNK)
        for name in ("x", "", "h", "B"):
            self.assertIs(refused(fen.sank, name), errors.NoMark)
        self.assertIs(refused(fen.sank, "a"), errors.Steady)
        self.assertIs(refused(Fen().sank, "a"), errors.NoMark)
        fen.back()
        self.assertIs(refused(fen.sank, "b"), errors.Steady)

    def test_groups_go_as_the_marks_came(self):
        fen = self.check([("mark", "d"), ("mark", "c"), ("mark", "b"), ("mark", "a"), ("hand", "h"), ("settle", "d"),
                          ("run", "a", "d", 1, "h"), ("run", "b", "c", 1, "h"), ("settle", "c")])
        self.assertEqual(fen.groups(), [["d", "a"], ["c"], ["b"]])
        self.assertEqual(fen.stands()[-2:], [("d", 2), ("c", 2)])


class Aside(Asking):
    def parts_asked(self, fen):
        """All that is asked of heights, readings and parting, and which runs count."""
        return [fen.counting()] + all_asked(fen)[8:]

    def test_as_if_the_runs_had_never_been_entered(self):
        source = random.Random(21)
        for turn in range(40):
            deeds = [row for row in drawn_deeds(source, 30) if row[0] in ("mark", "hand", "run", "settle", "allow")]
            hands = [row[1] for row in deeds if row[0] == "hand"] + ["none"]
            out = source.sample(hands, min(len(hands), source.randrange(1, 3)))
            # The runs of these hands are entered behind all others, so that the numbers of these are the same.
            kept = [row for row in deeds if not (row[0] == "run" and row[4] in out)]
            # Runs are between the last stands, so a settling must not fall between.
            gone = [] if any(row[0] == "settle" for row in deeds) else [row for row in deeds if row not in kept]
            asides = [("aside", hand) for hand in out if hand != "none"]
            fen, without = fen_of(kept + gone + asides), fen_of(kept)
            self.assertEqual(self.parts_asked(fen), self.parts_asked(without))
            self.assertEqual(len(fen.runs()), len(without.runs()) + len(gone))
            struck = fen_of(deeds + [("strike", run[0]) for run in fen_of(deeds).runs() if run[6] in out])
            self.assertEqual(self.parts_asked(fen_of(deeds + asides)), self.parts_asked(struck))

    def test_heeded_again_all_is_as_ahead(self):
        for deeds in (DEEDS, DEEDS + [("allow", 1)], DEEDS + [("settle", "oak"), ("allow", 2)]):
            fen = fen_of(deeds)
            ahead = all_asked(fen)[1:]
            for hand in ("kim", "zed"):
                fen.aside(hand)
                self.assertNotEqual(all_asked(fen)[1:], ahead)
            for hand in ("kim", "zed"):
                fen.heed(hand)
            self.assertEqual(all_asked(fen)[1:], ahead)

    def test_runs_stand_but_do_not_count(self):
        fen = self.check(DEEDS + [("aside", "ann")])
        self.assertEqual([run[0] for run in fen.runs()], [1, 2, 4, 5, 6, 7])
        self.assertEqual(fen.counting(), [2, 4, 6, 7])
        self.assertEqual((fen.height("pole", "oak"), fen.least()), (("sure", 5), 0))
        # Its run can be entered, mended and struck all the same.
        self.assertEqual(fen.run("pole", "oak", 8, "ann"), 8)
        fen.mend(8, 7)
        fen.mend(1, 7)
        fen.strike(5)
        self.assertEqual(fen.counting(), [2, 4, 6, 7])
        fen.heed("ann")
        self.assertEqual(fen.counting(), [2, 4, 6, 7, 8])
        self.assertEqual(fen.height("pole", "oak"), ("none",))


class Parting(Asking):
    def test_twice_as_many_as_are_allowed_for(self):
        deeds = [("mark", "b"), ("mark", "a")] + [("hand", name) for name in "zyxw"]
        deeds += [("run", "a", "b", 3, name) for name in "wyz"]
        for many, names in [(0, None), (1, None), (2, ["z", "y", "w"]), (3, ["z", "y", "w"])]:
            fen = self.check(deeds + [("allow", many)])
            self.assertEqual(fen.parting("a", "b"), names)
            self.assertEqual(fen.foe("a", "b") is None, names is None)
        fen = self.check(deeds + [("allow", 1), ("aside", "y")])
        self.assertEqual(fen.parting("b", "a"), ["z", "w"])
        self.assertEqual(len(fen.foe("b", "a")[0]), 2)

    def test_only_the_last_stands(self):
        fen = self.check([("mark", "a"), ("mark", "b"), ("hand", "h"), ("run", "a", "b", 1, "h"), ("settle", "a")])
        self.assertEqual(fen.parting("a", "b"), [])
        rises, first, second = fen.foe("a", "b")
        self.assertEqual((len(rises), len(first[1]), len(second[1])), (1, 3, 3))


class OnNumbers(Asking):
    def test_any_deeds(self):
        source = random.Random(22)
        words, books = set(), set()
        for turn in range(120):
            deeds = drawn_deeds(source, source.randrange(8, 60))
            if turn % 3:
                deeds = without_great_rises(deeds)
            fen = fen_of(deeds)
            pairs = list(itertools.product(fen.marks(), repeat=2))
            fen = self.check(deeds, source.sample(pairs, min(6, len(pairs))))
            words.update(fen.height(one, other)[0] for one, other in pairs)
            books.update(fen.foe(one, other) is None for one, other in pairs[:9])
        self.assertEqual((words, books), ({"none", "sure", "open"}, {True, False}))

    def test_against_the_functions_on_numbers(self):
        # Where nothing has settled and all runs count, numbers go over into names and nothing else changes.
        names = ["m" + letter for letter in "lkjihgfedcba"]
        hands = ["h" + letter for letter in "jihgfedcba"]
        for size, runs, answer in worst_cases():
            runs = [(one, other, max(-10 ** 9, min(rise, 10 ** 9)), hand) for one, other, rise, hand in runs]
            deeds = [("mark", name) for name in names[:size]] + [("hand", name) for name in hands]
            deeds += [("run", names[one], names[other], rise, hands[hand]) for one, other, rise, hand in runs]
            for many in (0, 3):
                fen = fen_of(deeds + [("allow", many)])
                wanted = told(size, runs, many, 0, 5)
                self.assertEqual(fen.height(names[0], names[5]), wanted[:2] if wanted[0] == "sure" else wanted[:1])
                self.assertEqual(fen.height(names[0], names[5])[0], answer[0] if many == 3 else wanted[0])
                if wanted[0] == "open":
                    self.assertEqual([reading_by_numbers(fen, reading) for reading in fen.readings(names[0], names[5])],
                                     list(wanted[1:]))
                else:
                    self.assertEqual(paper_by_numbers(fen, fen.paper(names[0], names[5])), wanted[-1])
                self.assertEqual(fen.false_sets(), [[hands[hand] for hand in struck]
                                                    for struck in false_sets(size, runs, many)])
                self.assertEqual(fen.least(), least(size, runs))
                groups = sure_groups(size, runs, many)
                self.assertEqual(fen.groups(), groups and [[names[mark] for mark in group] for group in groups])
                struck = parting(size, runs, 2 * many, 0, 5)
                self.assertEqual(fen.parting(names[0], names[5]), struck and [hands[hand] for hand in struck])
                book = foe(size, runs, many, 0, 5)
                self.assertEqual(fen.foe(names[0], names[5]) is None, book is None)
                if book is not None:
                    rises, first, second = fen.foe(names[0], names[5])
                    self.assertEqual((rises, reading_by_numbers(fen, first), reading_by_numbers(fen, second)), book)


if __name__ == "__main__":
    unittest.main()
