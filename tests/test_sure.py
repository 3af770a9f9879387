import itertools
import unittest

from fenlevel.papers import shows_none, shows_rise
from fenlevel.readings import is_reading
from fenlevel.sure import sure_groups, told
from tests.helpers import (SQUARE, check_call, hand_cases, plain_told, plain_views, small_cases, worst_cases)

HUGE = 10 ** 60
# Three hands agree on 5 from 0 to 1, a fourth one tells 6; marks 2 and 3 have a run of one hand each.
RUNS = [(0, 1, 5, 0), (1, 0, -5, 1), (0, 1, 6, 3), (0, 1, 5, 2), (1, 2, HUGE, 0), (2, 1, -HUGE, 1), (2, 3, 1, 0)]


def some_pairs(size):
    """All pairs of marks where they are few, else some of them, some there and back."""
    pairs = list(itertools.product(range(size), repeat=2))
    if size < 5:
        return pairs
    return [(one, other) for one, other in pairs if (one + other) % size == 1 or one == other == 3]


class Told(unittest.TestCase):
    def check(self, size, runs, many, one, other, wanted):
        answer = check_call(self, told, size, runs, many, one, other)
        self.assertIsInstance(answer, tuple)
        self.assertEqual(answer[0], wanted[0])
        if answer[0] == "none":
            kind, paper = answer
            self.assertTrue(shows_none(size, runs, paper, many))
        elif answer[0] == "sure":
            kind, rise, paper = answer
            self.assertEqual((kind, rise), wanted)
            self.assertTrue(shows_rise(size, runs, paper, many, one, other, rise))
            self.assertFalse(shows_none(size, runs, paper, many))
        else:
            kind, first, second = answer
            self.check_apart(size, runs, many, one, other, first, second)

    def check_apart(self, size, runs, many, one, other, first, second):
        for pair in (first, second):
            self.assertIsInstance(pair, tuple)
            self.assertIsInstance(pair[0], list)
            self.assertIsInstance(pair[1], list)
            self.assertTrue(is_reading(size, runs, many, pair))
        self.assertNotEqual(first[1][other] - first[1][one], second[1][other] - second[1][one])

    def check_all(self, size, runs, many, pairs):
        """The words that were told; all that is told is checked."""
        views = plain_views(size, runs, many)
        words = set()
        for one, other in pairs:
            wanted = plain_told(views, one, other)
            with self.subTest(runs=runs, many=many, one=one, other=other):
                self.check(size, runs, many, one, other, wanted)
            words.add(wanted[0])
        return words

    def test_none_left(self):
        for one, other in itertools.product(range(4), repeat=2):
            self.check(4, RUNS, 0, one, other, ("none",))
        self.check(4, RUNS + [(0, 1, 6, 4), (0, 1, 7, 5)], 1, 0, 3, ("none",))

    def test_sure(self):
        self.check(4, RUNS, 1, 0, 1, ("sure", 5))
        # Hand 3 must be false here, so that nobody else may be, and one hand's word is enough.
        self.check(4, RUNS, 1, 0, 3, ("sure", 6 + HUGE))
        self.check(4, RUNS, 2, 0, 1, ("sure", 5))
        self.check(4, RUNS, 2, 0, 2, ("sure", 5 + HUGE))
        self.check(4, RUNS[:2] + RUNS[3:], 0, 0, 3, ("sure", 6 + HUGE))
        self.check(6, SQUARE, 0, 5, 4, ("sure", 7))
        self.check(6, SQUARE, 1, 1, 2, ("sure", -2))

    def test_open(self):
        self.check(4, RUNS, 2, 0, 3, ("open",))
        self.check(4, RUNS, 2, 2, 3, ("open",))
        self.check(4, RUNS, 3, 1, 2, ("open",))
        self.check(4, RUNS, 3, 0, 1, ("open",))
        self.check(6, SQUARE, 0, 0, 4, ("open",))
        self.check(6, SQUARE, 1, 5, 4, ("open",))
        self.check(2, [(0, 1, 4, 0), (0, 1, 5, 1)], 1, 0, 1, ("open",))

    def test_open_without_striking_more(self):
        # Hands 0 and 1 only tell the rise otherwise than hands 2 and 3: both pairs may be the false one.
        runs = [(0, 1, 4, 0), (0, 1, 4, 1), (0, 1, 5, 2), (0, 1, 5, 3)]
        kind, first, second = told(2, runs, 2, 0, 1)
        self.assertEqual(sorted([first[0], second[0]]), [[0, 1], [2, 3]])
        self.check(2, runs, 2, 0, 1, ("open",))
        self.check(2, runs, 1, 0, 1, ("none",))

    def test_one_reading_with_other_heights(self):
        kind, first, second = told(3, [(0, 1, 4, 0)], 0, 1, 2)
        self.assertEqual((kind, first[0], second[0]), ("open", [], []))
        self.assertIsNot(first[0], second[0])
        self.check(3, [(0, 1, 4, 0)], 0, 1, 2, ("open",))

    def test_a_mark_and_itself(self):
        for many in range(4):
            for mark in range(4):
                self.check(4, RUNS, many, mark, mark, ("sure", 0) if many else ("none",))
            self.check(2, [], many, 1, 1, ("sure", 0))

    def test_one_mark_and_no_runs(self):
        for many in range(4):
            self.check(1, [], many, 0, 0, ("sure", 0))
            self.check(2, [], many, 0, 1, ("open",))
            self.check(12, [], many, 11, 3, ("open",))

    def test_there_and_back(self):
        for many in range(4):
            for one, other in itertools.product(range(4), repeat=2):
                there = told(4, RUNS, many, one, other)
                back = told(4, RUNS, many, other, one)
                self.assertEqual(there[0], back[0])
                if there[0] == "sure":
                    self.assertEqual(there[1], -back[1])

    def test_one_hand_in_all_runs(self):
        self.assertEqual(self.check_all(3, [(0, 1, 1, 9), (1, 2, 1, 9)], 0, some_pairs(3)), {"sure"})
        self.assertEqual(self.check_all(3, [(0, 1, 1, 9), (1, 2, 1, 9)], 1, some_pairs(3)), {"sure", "open"})
        self.assertEqual(self.check_all(3, [(0, 1, 1, 9), (0, 1, 2, 9)], 0, some_pairs(3)), {"none"})

    def test_small_ones(self):
        for size, runs in small_cases():
            for many in (0, 1, 2):
                self.check_all(size, runs, many, [(0, 1), (2, 0), (1, 1)])

    def test_many(self):
        for many in range(4):
            words = set()
            for size, runs in hand_cases():
                words.update(self.check_all(size, runs, many, some_pairs(size)))
            self.assertEqual(words, {"none", "sure", "open"})

    def test_forty_runs_of_ten_hands(self):
        for size, runs, answer in worst_cases():
            self.assertEqual((len(runs), len({run[3] for run in runs})), (40, 10))
            self.check(size, runs, 3, 0, 5, answer)
            for many in range(5):
                self.check_all(size, runs, many, [(0, 5), (5, 1)])


class SureGroups(unittest.TestCase):
    def check(self, size, runs, many, by_told=True):
        answer = check_call(self, sure_groups, size, runs, many)
        views = plain_views(size, runs, many)
        self.assertEqual(answer is None, not views)
        if answer is None:
            return
        wanted = []
        for mark in range(size):
            group = [other for other in range(size) if plain_told(views, mark, other)[0] == "sure"]
            if group[0] == mark:
                wanted.append(group)
        self.assertEqual(answer, wanted)
        if by_told:
            for one, other in itertools.product(range(size), repeat=2):
                together = any(one in group and other in group for group in answer)
                self.assertEqual(told(size, runs, many, one, other)[0], "sure" if together else "open")

    def test_small_ones(self):
        self.assertIsNone(sure_groups(4, RUNS, 0))
        self.assertEqual(sure_groups(4, RUNS, 1), [[0, 1, 2, 3]])
        self.assertEqual(sure_groups(4, RUNS, 2), [[0, 1, 2], [3]])
        self.assertEqual(sure_groups(4, RUNS, 3), [[0], [1], [2], [3]])
        self.assertEqual(sure_groups(6, SQUARE, 0), [[0, 1, 2, 3], [4, 5]])
        self.assertEqual(sure_groups(6, SQUARE, 1), [[0, 1, 2, 3], [4], [5]])

    def test_no_runs(self):
        for many in range(4):
            self.assertEqual(check_call(self, sure_groups, 1, [], many), [[0]])
            self.assertEqual(check_call(self, sure_groups, 3, [], many), [[0], [1], [2]])

    def test_two_marks_without_a_run_between_them(self):
        runs = [(3, 0, 2, hand) for hand in range(3)] + [(0, 2, 7, hand) for hand in range(4, 7)]
        for many in (0, 1, 2):
            self.assertEqual(sure_groups(4, runs, many), [[0, 2, 3], [1]])
            self.check(4, runs, many)
        self.assertEqual(sure_groups(4, runs, 3), [[0], [1], [2], [3]])

    def test_sure_by_other_lines_with_each_hand_struck(self):
        # From 0 to 3 there are two lines without a hand in common, but none of the marks between is sure.
        runs = [(0, 1, 1, 0), (1, 3, 2, 0), (0, 2, 5, 1), (2, 3, -2, 1)]
        self.assertEqual(sure_groups(4, runs, 1), [[0, 3], [1], [2]])
        self.check(4, runs, 1)

    def test_the_same_height_in_two_groups(self):
        # Nothing but the flat heights is alike here: marks 0 and 1 never hang together.
        self.assertEqual(sure_groups(4, [(0, 2, 3, 0), (1, 3, 3, 0)], 0), [[0, 2], [1, 3]])

    def test_hanging_together_always_but_at_other_heights(self):
        runs = [(0, 1, 4, 0), (0, 1, 5, 1)]
        self.assertEqual(sure_groups(2, runs, 1), [[0], [1]])
        self.check(2, runs, 1)

    def test_few_runs(self):
        for size, runs in small_cases():
            for many in (0, 1, 2):
                self.check(size, runs, many, by_told=len(runs) < 3)

    def test_many(self):
        for size, runs in hand_cases():
            for many in range(4):
                self.check(size, runs, many, by_told=size < 6)

    def test_forty_runs_of_ten_hands(self):
        for size, runs, answer in worst_cases():
            for many in range(4):
                self.check(size, runs, many, by_told=False)

    def test_size_of_answers(self):
        self.assertEqual(sure_groups(0, [], 0), [])
        runs = [(0, mark, mark, hand) for mark in range(1, 12) for hand in (0, 1, 2)]
        self.assertEqual(sure_groups(12, runs, 2), [list(range(12))])
        self.assertEqual(sure_groups(12, runs, 3), [[mark] for mark in range(12)])


if __name__ == "__main__":
    unittest.main()
