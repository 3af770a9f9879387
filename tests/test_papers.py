import functools
import itertools
import random
import unittest

from fenlevel.papers import is_paper, none_paper, shows_none, shows_rise
from tests.helpers import (SQUARE, check_call, every_line, every_thing, hand_cases, plain_false_sets, plain_told,
                           plain_views, small_cases, worst_cases)

HUGE = 10 ** 60
# Three hands tell 5 from 0 to 1, a fourth one 6; mark 2 is reached from 1 by two hands.
RUNS = [(0, 1, 5, 0), (0, 1, 5, 1), (1, 0, -5, 2), (0, 1, 6, 3), (1, 2, 2, 0), (2, 1, -2, 1)]
# The one line from 0 to 2 without hand 0 that is paper enough where nobody else may be false, and so on.
WITHOUT_0 = ("line", 0, (1, 5), ())
WITHOUT_1 = ("line", 0, (0, 4), ())
SURE = ("line", 0, (0, 4), ((0, WITHOUT_0),))
# Three hands with three rises: no two of them agree.
QUARREL = [(0, 1, 1, 2), (0, 1, 2, 5), (0, 1, 3, 7)]
NONE = ("ring", 0, (0, 1), ((2, ("ring", 1, (1, 2), ())), (5, ("ring", 0, (2, 0), ()))))


def lines_below(paper, many, outer=()):
    """Each (kind, mark, line, hands of the rest, so many, hands struck further out) within a paper."""
    kind, mark, line, rest = paper
    yield kind, mark, line, [hand for hand, inner in rest], many, outer
    for hand, inner in rest:
        yield from lines_below(inner, many - 1, outer + (hand,))


@functools.lru_cache(maxsize=None)
def all_lines(runs, mark):
    """Every line from a mark with its pair (end, rise); only for few runs."""
    return {line: (end, rise) for line, end, rise in every_line(runs, (), mark)}


def plain_line(runs, mark, line):
    """The pair (end, rise), or None, by looking among all lines from a mark."""
    return all_lines(tuple(runs), mark).get(line)


def plain_paper(size, runs, paper, many):
    """As is_paper, by the words of the document."""
    for kind, mark, line, hands, left, outer in lines_below(paper, many):
        if not 0 <= mark < size or plain_line(runs, mark, line) is None:
            return False
        end, rise = plain_line(runs, mark, line)
        if kind not in ("ring", "line") or kind == "ring" and (end != mark or rise == 0 or line == ()):
            return False
        own = sorted({runs[number][3] for number in line})
        if hands != (own if left > 0 else []) or set(own) & set(outer):
            return False
    return True


def changed(source, paper, runs):
    """A paper with one thing in it changed, somewhere."""
    kind, mark, line, rest = paper
    place = source.randrange(len(rest) + 1)
    if place < len(rest) and source.randrange(4):
        hand, inner = rest[place]
        return kind, mark, line, rest[:place] + ((hand, changed(source, inner, runs)),) + rest[place + 1:]
    number = source.randrange(-2, len(runs) + 2)
    cut = source.randrange(len(line) + 1)
    return source.choice([
        ("line", mark, line, rest), ("ring", mark, line, rest), (kind + " ", mark, line, rest),
        (kind, source.randrange(-1, 5), line, rest), (kind, mark, line[::-1], rest), (kind, mark, line[1:], rest),
        (kind, mark, line[:cut] + (number,) + line[cut:], rest),
        (kind, mark, line[:cut] + (number,) + line[cut + 1:], rest),
        (kind, mark, line, rest[::-1]), (kind, mark, line, rest[:place] + rest[place + 1:]),
        (kind, mark, line, rest + rest[:1]), (kind, mark, line, rest + ((9, ("line", 0, (), ())),)),
        (kind, mark, line, tuple((hand, paper) for hand, inner in rest)), (kind, mark, line, rest)])


def drawn(source, size, runs, many, outer=()):
    """A paper of any lines, as chance has it."""
    mark = source.randrange(size)
    line, end, rise = source.choice(list(every_line(runs, outer, mark)))
    kind = "ring" if end == mark and rise != 0 else "line"
    hands = sorted({runs[number][3] for number in line}) if many > 0 else []
    return kind, mark, line, tuple((hand, drawn(source, size, runs, many - 1, outer + (hand,))) for hand in hands)


class IsPaper(unittest.TestCase):
    def check(self, wanted, paper, many, runs=RUNS, size=3):
        with self.subTest(paper=paper, many=many):
            self.assertIs(check_call(self, is_paper, size, runs, paper, many), wanted)
            self.assertIs(plain_paper(size, runs, paper, many), wanted)

    def test_a_line(self):
        self.check(True, WITHOUT_0, 0)
        self.check(True, SURE, 1)
        self.check(True, ("line", 2, (5, 1), ()), 0)
        self.check(True, ("line", 0, (0, 3), ()), 0)
        self.check(True, ("line", 0, (0, 1), ()), 0)

    def test_a_ring(self):
        self.check(True, ("ring", 0, (0, 3), ()), 0)
        self.check(True, ("ring", 1, (3, 2), ()), 0)
        self.check(True, NONE, 1, QUARREL, 2)
        self.check(True, ("ring", 0, (0, 3), ((0, SURE[:2] + ((1, 5), ())), (3, WITHOUT_0))), 1)

    def test_the_line_of_no_runs(self):
        for many in (0, 1, 3, 4):
            self.check(True, ("line", 1, (), ()), many)
            self.check(True, ("line", 0, (), ()), many, [], 1)
        self.check(True, ("line", 0, (0,), ((0, ("line", 2, (), ())),)), 2)

    def test_a_mark_that_is_not_there(self):
        for mark in (-1, -3, 3, 12, HUGE, -HUGE):
            self.check(False, ("line", mark, (), ()), 0)
            self.check(False, ("line", mark, (0,), ()), 0)
            self.check(False, ("ring", mark, (0, 3), ()), 0)
            self.check(False, ("line", 0, (0,), ((0, ("line", mark, (), ())),)), 1)

    def test_a_ring_that_is_none(self):
        self.check(False, ("ring", 0, (0, 1), ()), 0)
        self.check(False, ("ring", 0, (0, 2), ()), 0)
        self.check(False, ("ring", 0, (), ()), 0)
        self.check(False, ("ring", 0, (), ()), 2)
        self.check(False, ("ring", 0, (0,), ()), 0)
        self.check(False, ("ring", 0, (0, 3, 1), ()), 0)

    def test_a_line_that_is_none(self):
        for line in ((4,), (0, 0), (0, 3, 0), (0, 4, 1), (5, 1), (0, 1, 4)):
            self.check(False, ("line", 0, line, ()), 0)
            self.check(False, ("ring", 0, line, ()), 0)

    def test_a_run_number_that_is_not_there(self):
        for number in (6, 7, HUGE, -1, -2, -6, -HUGE):
            self.check(False, ("line", 0, (number,), ()), 0)
            self.check(False, ("line", 1, (number,), ()), 0)
            self.check(False, ("line", 0, (0, number), ()), 0)
            self.check(False, ("ring", 0, (0, number), ()), 0)
        self.check(False, ("line", 0, (0,), ()), 0, [], 1)
        self.check(False, ("line", 0, (-1,), ()), 0, [], 1)

    def test_the_pairs_of_the_rest(self):
        line = (0, 5)
        zero, one = (0, WITHOUT_0), (1, WITHOUT_1)
        self.check(True, ("line", 0, line, (zero, one)), 1)
        for rest in ((), (zero,), (one,), (one, zero), (zero, zero), (zero, zero, one), (zero, one, one),
                     (zero, one, (2, WITHOUT_0)), ((-1, WITHOUT_0), zero, one), (zero, (2, WITHOUT_1)),
                     ((0, WITHOUT_1), (1, WITHOUT_0)), (zero, one, (HUGE, WITHOUT_0))):
            self.check(False, ("line", 0, line, rest), 1)

    def test_a_rest_where_nobody_may_be_false(self):
        self.check(False, SURE, 0)
        self.check(False, NONE, 0, QUARREL, 2)
        self.check(False, ("line", 0, (0, 4), ((0, ("line", 0, (1, 5), ((1, ("line", 0, (), ())),))),)), 1)

    def test_a_rest_where_the_line_has_no_hands(self):
        for many in (0, 1, 2):
            self.check(False, ("line", 0, (), ((0, WITHOUT_0),)), many)
            self.check(False, ("line", 0, (), ((1, ("line", 0, (), ())),)), many)

    def test_too_few_papers_for_so_many(self):
        self.check(False, WITHOUT_0, 1)
        self.check(False, SURE, 2)
        self.check(False, NONE, 2, QUARREL, 2)
        self.check(False, NONE, 3, QUARREL, 2)

    def test_a_hand_that_was_struck(self):
        self.check(False, ("line", 0, (0, 4), ((0, WITHOUT_1),)), 1)
        self.check(False, ("line", 0, (0, 4), ((0, ("line", 0, (1, 4), ())),)), 1)
        self.check(False, ("ring", 0, (0, 3), ((0, WITHOUT_0), (3, ("ring", 0, (1, 3), ())))), 1)

    def test_a_hand_that_was_struck_further_out(self):
        def deep(last, further=()):
            paper = ("line", 0, last, further)
            for hand in (2, 1, 0):
                paper = ("line", 0, (hand,), ((hand, paper),))
            return paper
        self.check(True, deep((3,)), 3)
        self.check(True, deep(()), 3)
        self.check(True, deep((3,), ((3, ("line", 2, (), ())),)), 4)
        for last in ((0,), (1,), (2,), (3, 0), (3, 1), (3, 2)):
            self.check(False, deep(last), 3)
        for last in ((0,), (1,), (2,), (3,)):
            self.check(False, deep((3,), ((3, ("line", 0, last, ())),)), 4)

    def test_the_hands_beside_may_come_again(self):
        self.check(True, ("line", 0, (0, 5), ((0, ("line", 0, (1, 5), ())), (1, ("line", 0, (0, 4), ())))), 1)

    def test_another_text_for_the_kind(self):
        for kind in ("", "rings", "Ring", "lines", "LINE", " line", "sure", "none", "line\n"):
            self.check(False, (kind, 0, (0, 3), ()), 0)
            self.check(False, (kind, 0, (0,), ()), 0)
            self.check(False, ("line", 0, (0, 4), ((0, (kind, 0, (1, 5), ())),)), 1)

    def test_numbers_of_the_whole_list_throughout(self):
        # Without hand 0 run 5 would have the number 3.
        self.check(False, ("line", 0, (0, 4), ((0, ("line", 0, (0, 3), ())),)), 1)

    def test_one_thing_changed(self):
        source = random.Random(3)
        papers = [(RUNS, 3, SURE, 1), (QUARREL, 2, NONE, 1)]
        for many in range(4):
            papers.extend((RUNS, 3, drawn(source, 3, RUNS, many), many) for turn in range(6))
            papers.extend((QUARREL, 2, drawn(source, 2, QUARREL, many), many) for turn in range(3))
        found = []
        for runs, size, paper, many in papers:
            self.check(True, paper, many, runs, size)
            for turn in range(60):
                other = changed(source, paper, runs)
                found.append(plain_paper(size, runs, other, many))
                self.assertIs(is_paper(size, runs, other, many), found[-1], other)
        self.assertGreater(found.count(False), 500)
        self.assertGreater(found.count(True), 100)


class Shows(unittest.TestCase):
    def none(self, wanted, paper, many, runs=RUNS, size=3):
        self.assertIs(check_call(self, shows_none, size, runs, paper, many), wanted)

    def rise(self, wanted, paper, many, one, other, rise, runs=RUNS, size=3):
        self.assertIs(check_call(self, shows_rise, size, runs, paper, many, one, other, rise), wanted)

    def test_rings_alone_show_that_none_is_left(self):
        self.none(True, NONE, 1, QUARREL, 2)
        self.none(True, ("ring", 0, (0, 3), ()), 0)
        self.none(False, SURE, 1)
        self.none(False, ("line", 0, (0, 3), ()), 0)
        self.none(False, ("line", 0, (), ()), 0)
        self.none(False, ("ring", 0, (0, 3), ((0, ("ring", 0, (1, 3), ())), (3, WITHOUT_0))), 1)
        self.none(False, ("line", 0, (0,), ((0, ("ring", 0, (1, 3), ())),)), 1)

    def test_rings_alone_show_any_rise(self):
        for one, other, rise in itertools.product((0, 1), (0, 1), (0, 1, -7, HUGE)):
            self.rise(True, NONE, 1, one, other, rise, QUARREL, 2)

    def test_a_line_shows_its_rise(self):
        self.rise(True, SURE, 1, 0, 2, 7)
        self.rise(True, WITHOUT_0, 0, 0, 2, 7)
        self.rise(True, ("line", 2, (4, 0), ()), 0, 2, 0, -7)
        self.rise(True, ("line", 1, (), ()), 3, 1, 1, 0)
        self.rise(True, ("ring", 0, (0, 3), ((0, WITHOUT_0), (3, WITHOUT_0))), 1, 0, 2, 7)
        self.rise(True, ("line", 0, (0,), ((0, ("ring", 0, (1, 3), ())),)), 1, 0, 1, 5)

    def test_another_rise(self):
        for rise in (-7, 0, 6, 8, HUGE):
            self.rise(False, SURE, 1, 0, 2, rise)
            self.rise(False, WITHOUT_0, 0, 0, 2, rise)
        self.rise(False, ("line", 1, (), ()), 0, 1, 1, 1)
        self.rise(False, ("line", 0, (0,), ((0, ("line", 0, (3,), ())),)), 1, 0, 1, 5)
        self.rise(False, ("line", 0, (0,), ((0, ("line", 0, (3,), ())),)), 1, 0, 1, 6)

    def test_other_marks(self):
        for one, other in itertools.product(range(3), repeat=2):
            for rise in (7, -7, 0):
                self.rise((one, other, rise) == (0, 2, 7), SURE, 1, one, other, rise)
        self.rise(False, ("line", 0, (0, 4), ((0, ("line", 1, (5,), ())),)), 1, 0, 2, 7)
        self.rise(False, ("line", 1, (), ()), 0, 0, 0, 0)

    def test_the_other_way_round(self):
        self.rise(False, SURE, 1, 2, 0, 7)
        self.rise(False, SURE, 1, 2, 0, -7)
        self.rise(False, ("line", 0, (0, 4), ((0, ("line", 2, (5, 1), ())),)), 1, 0, 2, 7)
        # A line both of whose ways have the same rise.
        self.rise(False, ("line", 0, (0,), ()), 0, 1, 0, 0, [(0, 1, 0, 0)], 2)

    def test_a_tuple_that_is_no_paper(self):
        for paper, many in ((SURE, 0), (SURE, 2), (WITHOUT_0, 1), (("line", 3, (), ()), 0), (("line", 0, (9,), ()), 0),
                            (("lines", 0, (1, 5), ()), 0), (("line", 0, (0, 4), ((0, WITHOUT_1),)), 1),
                            (("line", 0, (0, 4), ((1, WITHOUT_0),)), 1), (("ring", 0, (), ()), 0),
                            (("ring", 0, (0, 1), ()), 0), (("ring", 0, (0, 3), ()), 1), (("ring", 7, (0, 3), ()), 0),
                            (("ring", 0, (0, -3), ()), 0), (("ring", 0, (0, 99), ()), 0)):
            self.none(False, paper, many)
            self.rise(False, paper, many, 0, 2, 7)
            self.rise(False, paper, many, 3, 3, 0)

    def test_what_is_shown_is_so(self):
        source = random.Random(11)
        shown = [0, 0]
        for runs, size in ((RUNS[:5], 3), (QUARREL, 2), ([(0, 1, 0, 0), (0, 1, 1, 1), (0, 1, 1, 0)], 2)):
            for many in (0, 1, 2):
                views = plain_views(size, runs, many)
                for turn in range(400):
                    paper = drawn(source, size, runs, many)
                    kinds = [part for part in every_thing(paper) if isinstance(part, str)]
                    self.assertIs(shows_none(size, runs, paper, many), "line" not in kinds)
                    if "line" not in kinds:
                        shown[0] += 1
                        self.assertEqual(plain_told(views, 0, 0), ("none",))
                    for one, other, rise in itertools.product(range(size), range(size), (0, 1, -1, 5, -5, 6)):
                        if views and shows_rise(size, runs, paper, many, one, other, rise):
                            shown[1] += 1
                            self.assertEqual(plain_told(views, one, other), ("sure", rise))
        self.assertGreater(min(shown), 20)


class NonePaper(unittest.TestCase):
    def check(self, size, runs, many):
        """True where a paper is told; what is told is checked either way."""
        paper = check_call(self, none_paper, size, runs, many)
        self.assertEqual(paper is None, bool(plain_false_sets(size, runs, many)))
        if paper is None:
            return False
        self.assertTrue(is_paper(size, runs, paper, many))
        self.assertTrue(shows_none(size, runs, paper, many))
        self.assertNotIn("line", list(every_thing(paper)))
        if len(runs) < 6:
            self.assertTrue(plain_paper(size, runs, paper, many))
        self.assertFalse([part for part in every_thing(paper) if not isinstance(part, (int, str, tuple))])
        return True

    def test_small_ones(self):
        self.assertEqual([self.check(2, QUARREL, many) for many in range(5)], [True, True, False, False, False])
        self.assertEqual([self.check(3, RUNS, many) for many in range(4)], [True, False, False, False])
        self.assertEqual([self.check(2, [(0, 1, turn, hand) for turn in (0, 1) for hand in (0, 3, 9)], many)
                          for many in range(5)], [True, True, True, False, False])

    def test_runs_that_close(self):
        for many in range(4):
            self.assertIsNone(none_paper(1, [], many))
            self.assertIsNone(none_paper(12, [], many))
            self.assertIsNone(none_paper(6, SQUARE, many))

    def test_few_runs(self):
        for size, runs in small_cases():
            for many in (0, 1, 2):
                self.check(size, runs, many)

    def test_many(self):
        for many in range(4):
            found = [self.check(size, runs, many) for size, runs in hand_cases()]
            self.assertEqual(set(found), {False, True})

    def test_forty_runs_of_ten_hands(self):
        for many in range(4):
            found = [self.check(size, runs, many) for size, runs, answer in worst_cases()]
            self.assertIn(True, found)


if __name__ == "__main__":
    unittest.main()
