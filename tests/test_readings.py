import itertools
import unittest

from fenlevel.readings import false_sets, is_reading, least, reading
from tests.helpers import (SQUARE, check_call, do_close, every_list, hand_cases, hang_together, large_cases,
                           plain_false_sets, plain_heights, small_cases, worst_cases)

HUGE = 10 ** 60
# Hand 4 tells the rise from 0 to 1 wrongly, and hand 7 the one from 5 to 4; nothing else is wrong.
SPOILED = SQUARE + [(0, 1, 6, 4), (4, 5, HUGE, 7)]
HEIGHTS = [0, 5, 3, -1, 7, 0]


def flat_heights(size, runs, struck):
    """The heights with nought at the least mark of each group."""
    table = hang_together(size, runs, struck)
    heights = plain_heights(size, runs, struck)
    return [heights[mark] - heights[table[mark].index(True)] for mark in range(size)]


def plain_reading(size, runs, many, false, heights):
    """As is_reading, by the words of the document."""
    if len(heights) != size or len(false) > many or false not in every_list(runs, 10):
        return False
    return all(heights[other] - heights[one] == rise for one, other, rise, hand in runs if hand not in false)


class IsReading(unittest.TestCase):
    def check(self, wanted, many, false, heights, runs=SPOILED, size=6):
        with self.subTest(many=many, false=false, heights=heights):
            self.assertIs(check_call(self, is_reading, size, runs, many, (false, heights)), wanted)

    def test_the_truth(self):
        for many in (2, 3, 10, 11):
            self.check(True, many, [4, 7], HEIGHTS)
        self.check(True, 0, [], HEIGHTS, SQUARE)
        self.check(True, 3, [0, 4, 7], HEIGHTS)

    def test_lifted_by_one_number(self):
        for lift in (-HUGE, -1, 1, HUGE):
            self.check(True, 2, [4, 7], [height + lift for height in HEIGHTS])

    def test_one_group_lifted(self):
        self.check(True, 2, [4, 7], HEIGHTS[:4] + [107, 100])
        self.check(True, 3, [1, 4, 7], HEIGHTS[:4] + [-HUGE, HUGE])

    def test_not_growing(self):
        self.check(False, 3, [7, 4], HEIGHTS)
        self.check(False, 3, [4, 7, 0], HEIGHTS)
        self.check(False, 3, [0, 7, 4], HEIGHTS)

    def test_a_hand_twice(self):
        self.check(False, 3, [4, 4, 7], HEIGHTS)
        self.check(False, 3, [4, 7, 7], HEIGHTS)

    def test_a_hand_without_runs(self):
        for false in ([4, 7, 8], [4, 6, 7], [-1, 4, 7], [4, 7, HUGE], [4, 5, 7]):
            self.check(False, 3, false, HEIGHTS)
        self.check(False, 3, [0], [0], [], 1)
        self.check(False, 3, [5], HEIGHTS, SQUARE)

    def test_too_many_hands(self):
        self.check(False, 1, [4, 7], HEIGHTS)
        self.check(False, 0, [4, 7], HEIGHTS)
        self.check(False, 2, [3, 4, 7], HEIGHTS)
        self.check(False, 0, [0], HEIGHTS, SQUARE)
        self.check(False, -1, [], HEIGHTS, SQUARE)

    def test_heights_too_few_or_too_many(self):
        for heights in ([], HEIGHTS[:5], HEIGHTS + [0], HEIGHTS + HEIGHTS):
            self.check(False, 2, [4, 7], heights)
        self.check(False, 0, [], [], [], 1)
        self.check(False, 0, [], [0, 0], [], 1)

    def test_another_height(self):
        for mark in range(6):
            for change in (-HUGE, -1, 1):
                heights = list(HEIGHTS)
                heights[mark] += change
                self.check(False, 2, [4, 7], heights)

    def test_a_run_of_another_hand(self):
        self.check(False, 2, [4], HEIGHTS)
        self.check(False, 2, [7], HEIGHTS)
        self.check(False, 2, [], HEIGHTS)
        self.check(False, 3, [0, 1, 7], HEIGHTS)

    def test_no_runs(self):
        self.check(True, 0, [], [HUGE], [], 1)
        self.check(True, 3, [], [4, -9, 0], [], 3)

    def test_every_small_one(self):
        runs = [(0, 1, 1, 2), (0, 1, 0, 5), (1, 2, 0, 5)]
        lists = [list(false) for length in range(4) for false in itertools.product((1, 2, 5), repeat=length)]
        for size, many, false in itertools.product((2, 3), range(4), lists):
            for heights in itertools.product((0, 1), repeat=size):
                wanted = size == 3 and plain_reading(3, runs, many, false, list(heights))
                self.assertIs(is_reading(3, runs, many, (false, list(heights))), wanted)


class FalseSets(unittest.TestCase):
    def test_by_length_and_then_as_lists(self):
        runs = [(0, 1, 1, 3), (0, 1, 2, 1), (0, 1, 3, 9)]
        self.assertEqual(false_sets(2, runs, 0), [])
        self.assertEqual(false_sets(2, runs, 1), [])
        self.assertEqual(false_sets(2, runs, 2), [[1, 3], [1, 9], [3, 9]])
        self.assertEqual(false_sets(2, runs, 3), [[1, 3], [1, 9], [3, 9], [1, 3, 9]])
        self.assertEqual(false_sets(2, runs, 10), [[1, 3], [1, 9], [3, 9], [1, 3, 9]])

    def test_more_than_are_needed(self):
        self.assertEqual(false_sets(3, [(0, 1, 1, 8), (1, 2, 2, 0), (0, 2, 3, 4)], 2),
                         [[], [0], [4], [8], [0, 4], [0, 8], [4, 8]])

    def test_no_runs(self):
        for size in (1, 2, 12):
            for many in (0, 1, 3, 10, 11):
                self.assertEqual(check_call(self, false_sets, size, [], many), [[]])

    def test_all_of_ten_hands(self):
        runs = [(0, 1, hand, hand) for hand in range(10)]
        self.assertEqual(false_sets(2, runs, 8), [])
        self.assertEqual(len(false_sets(2, runs, 9)), 10)
        self.assertEqual(false_sets(2, runs, 10)[9:], [list(range(1, 10)), list(range(10))])
        self.assertEqual(len(false_sets(2, [(0, 1, 4, hand) for hand in range(10)], 10)), 1024)

    def test_hands_that_are_no_digits(self):
        runs = [(0, 1, 1, 12), (0, 1, 1, -3), (0, 1, 2, 100), (0, 1, 2, 12)]
        self.assertEqual(false_sets(2, runs, 2), [[-3, 12], [12, 100]])

    def test_small_ones(self):
        for size, runs in small_cases():
            for many in (0, 1, 2):
                self.assertEqual(false_sets(size, runs, many), plain_false_sets(size, runs, many))

    def test_many(self):
        for size, runs in hand_cases():
            wanted = plain_false_sets(size, runs, 10)
            self.assertEqual(wanted, sorted(wanted, key=lambda struck: (len(struck), struck)))
            for many in (0, 1, 3, 6, 10, 11):
                self.assertEqual(check_call(self, false_sets, size, runs, many),
                                 [struck for struck in wanted if len(struck) <= many])

    def test_large_ones(self):
        for size, runs in large_cases():
            self.assertEqual(false_sets(size, runs, 1), plain_false_sets(size, runs, 1))


class Least(unittest.TestCase):
    def test_small_ones(self):
        self.assertEqual(least(1, []), 0)
        self.assertEqual(least(6, SQUARE), 0)
        self.assertEqual(least(6, SPOILED[:-1]), 1)
        # Hand 4 is against others than hand 7 is, so that no one hand explains both.
        self.assertEqual(least(6, SPOILED), 2)
        self.assertEqual(least(2, [(0, 1, 1, 6), (0, 1, 2, 6)]), 1)
        self.assertEqual(least(2, [(0, 1, hand, hand) for hand in range(10)]), 9)
        self.assertEqual(least(2, [(0, 1, hand, hand) for hand in range(10)] + [(0, 1, -1, 4)]), 9)
        self.assertEqual(least(2, [(0, 1, turn, hand) for hand in range(10) for turn in range(4)]), 10)
        self.assertEqual(least(2, [(0, 1, turn, hand) for hand in range(11) for turn in range(2)]), 11)

    def test_many(self):
        found = set()
        for size, runs in itertools.chain(hand_cases(), small_cases()):
            number = check_call(self, least, size, runs)
            self.assertEqual(number, len(plain_false_sets(size, runs, number)[0]))
            self.assertEqual(plain_false_sets(size, runs, number - 1), [])
            self.assertEqual(number, len(false_sets(size, runs, 10)[0]))
            found.add(number)
        self.assertGreaterEqual(found, {0, 1, 2, 3, 4})


class Reading(unittest.TestCase):
    def check(self, size, runs, many):
        told = check_call(self, reading, size, runs, many)
        wanted = plain_false_sets(size, runs, many)
        self.assertEqual(told is None, not wanted)
        if wanted:
            self.assertIsInstance(told, tuple)
            self.assertEqual(told, (wanted[0], flat_heights(size, runs, wanted[0])))
            self.assertTrue(is_reading(size, runs, many, told))

    def test_the_first_with_flat_heights(self):
        self.assertEqual(reading(6, SQUARE, 3), ([], [0, 5, 3, -1, 0, -7]))
        self.assertEqual(reading(6, SPOILED, 2), ([0, 1], [0, 6, 3, -1, 0, HUGE]))
        self.assertEqual(reading(3, [(1, 2, 4, 0), (1, 2, 5, 1)], 1), ([0], [0, 0, 5]))

    def test_none(self):
        self.assertIsNone(reading(6, SPOILED, 1))
        self.assertIsNone(reading(6, SPOILED, 0))
        self.assertIsNone(reading(2, [(0, 1, hand, hand) for hand in range(10)], 8))
        self.assertEqual(reading(2, [(0, 1, hand, hand) for hand in range(10)], 9), (list(range(9)), [0, 9]))
        self.assertIsNone(reading(1, [], -1))

    def test_no_runs(self):
        self.assertEqual(reading(1, [], 0), ([], [0]))
        self.assertEqual(reading(4, [], 10), ([], [0, 0, 0, 0]))

    def test_small_ones(self):
        for size, runs in small_cases():
            for many in (0, 1, 2):
                self.check(size, runs, many)

    def test_many(self):
        for size, runs in hand_cases():
            for many in (0, 1, 2, 3):
                self.check(size, runs, many)
            self.assertEqual(reading(size, runs, 10), reading(size, runs, least(size, runs)))
            self.assertTrue(do_close(size, runs, reading(size, runs, 10)[0]))

    def test_forty_runs_of_ten_hands(self):
        for size, runs, answer in worst_cases():
            self.check(size, runs, 3)
            self.assertEqual(reading(size, runs, 10)[0], false_sets(size, runs, 10)[0])


if __name__ == "__main__":
    unittest.main()
