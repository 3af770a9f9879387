import itertools
import unittest

from fenlevel.runs import flat, groups, hands_of, holds, left
from tests.helpers import (SQUARE, check_call, do_close, hang_together, has_open_ring, large_cases, small_cases,
                           some_struck)

HUGE = 10 ** 60


class Hands(unittest.TestCase):
    def test_growing_each_once(self):
        self.assertEqual(hands_of(SQUARE), [0, 1, 2, 3])
        self.assertEqual(hands_of([(0, 1, 1, 9), (1, 0, 1, 0), (0, 1, 1, 4), (0, 1, 2, 9)]), [0, 4, 9])

    def test_no_runs(self):
        self.assertEqual(hands_of([]), [])

    def test_many(self):
        for size, runs in large_cases():
            self.assertEqual(check_call(self, hands_of, runs), [hand for hand in range(10)
                                                                if any(run[3] == hand for run in runs)])


class Left(unittest.TestCase):
    def test_keeps_the_order(self):
        self.assertEqual(left(SQUARE, [0, 3]), [(2, 1, 2, 1), (0, 3, -1, 2), (5, 4, 7, 1)])
        self.assertEqual(left([(2, 1, 3, 7), (0, 1, 9, 1), (1, 0, -5, 0), (2, 1, 3, 7)], [1]),
                         [(2, 1, 3, 7), (1, 0, -5, 0), (2, 1, 3, 7)])

    def test_edges(self):
        self.assertEqual(left([], []), [])
        self.assertEqual(left([], [0, 1]), [])
        self.assertEqual(left(SQUARE, []), SQUARE)
        self.assertIsNot(left(SQUARE, []), SQUARE)
        self.assertEqual(left(SQUARE, [3, 2, 1, 0]), [])
        self.assertEqual(left(SQUARE, [8, 9, 100, -1]), SQUARE)
        self.assertEqual(left(SQUARE, [2, 9, 2]), SQUARE[:3] + SQUARE[4:])

    def test_many(self):
        for size, runs in large_cases():
            for struck in some_struck(runs):
                wanted = [run for run in runs if struck.count(run[3]) == 0]
                self.assertEqual(check_call(self, left, runs, struck), wanted)


class Holds(unittest.TestCase):
    HEIGHTS = [0, 5, 3, -1, 7, 0]

    def test_heights_that_fit(self):
        self.assertIs(holds(SQUARE, self.HEIGHTS), True)

    def test_lifted_by_one_number(self):
        for lift in (-HUGE, -1, 1, HUGE):
            self.assertIs(holds(SQUARE, [height + lift for height in self.HEIGHTS]), True)

    def test_one_other_height(self):
        for mark in range(6):
            for change in (-HUGE, -1, 1, HUGE):
                heights = list(self.HEIGHTS)
                heights[mark] += change
                self.assertIs(holds(SQUARE, heights), False)

    def test_one_other_rise(self):
        for number, (one, other, rise, hand) in enumerate(SQUARE):
            for wrong in (rise - 1, rise + 1, -rise, rise + HUGE):
                runs = list(SQUARE)
                runs[number] = (one, other, wrong, hand)
                self.assertIs(holds(runs, self.HEIGHTS), False)

    def test_the_way_of_a_run(self):
        self.assertIs(holds([(0, 1, 4, 0)], [1, 5]), True)
        self.assertIs(holds([(1, 0, 4, 0)], [1, 5]), False)
        self.assertIs(holds([(1, 0, -4, 0)], [1, 5]), True)
        self.assertIs(holds([(0, 1, -HUGE, 0)], [HUGE, 0]), True)
        self.assertIs(holds([(0, 1, -HUGE, 0)], [HUGE, 1]), False)

    def test_no_runs(self):
        self.assertIs(holds([], [0]), True)
        self.assertIs(holds([], [4, -9, HUGE]), True)

    def test_changes_nothing(self):
        self.assertIs(check_call(self, holds, SQUARE, self.HEIGHTS), True)
        self.assertIs(check_call(self, holds, SQUARE, [0] * 6), False)


class Groups(unittest.TestCase):
    def test_small_ones(self):
        self.assertEqual(groups(1, []), [[0]])
        self.assertEqual(groups(4, []), [[0], [1], [2], [3]])
        self.assertEqual(groups(3, [(0, 2, 5, 0), (0, 2, 6, 1), (2, 0, 1, 0)]), [[0, 2], [1]])
        self.assertEqual(groups(6, SQUARE), [[0, 1, 2, 3], [4, 5]])

    def test_order(self):
        self.assertEqual(groups(6, [(5, 0, 1, 0), (4, 1, 1, 0), (2, 4, 1, 0)]), [[0, 5], [1, 2, 4], [3]])
        self.assertEqual(groups(5, [(4, 3, 1, 0), (3, 2, 1, 0), (2, 1, 1, 0), (1, 0, 1, 0)]), [[0, 1, 2, 3, 4]])

    def test_either_end(self):
        for turned in itertools.product((False, True), repeat=4):
            runs = [(other, one, 3, 0) if turn else (one, other, 3, 0)
                    for turn, (one, other) in zip(turned, ((0, 3), (3, 1), (4, 2), (5, 4)))]
            self.assertEqual(groups(7, runs), [[0, 1, 3], [2, 4, 5], [6]])

    def test_many(self):
        for size, runs in itertools.chain(small_cases(), large_cases()):
            table = hang_together(size, runs)
            wanted = []
            for mark in range(size):
                group = [other for other in range(size) if table[mark][other]]
                if group[0] == mark:
                    wanted.append(group)
            self.assertEqual(check_call(self, groups, size, runs), wanted)


class Flat(unittest.TestCase):
    def test_nought_at_the_least_of_each_group(self):
        self.assertEqual(flat(1, []), [0])
        self.assertEqual(flat(3, []), [0, 0, 0])
        self.assertEqual(flat(6, SQUARE), [0, 5, 3, -1, 0, -7])
        self.assertEqual(flat(4, [(3, 1, HUGE, 0), (2, 3, -1, 5)]), [0, 0, 1 - HUGE, -HUGE])

    def test_two_runs_between_the_same_marks(self):
        self.assertEqual(flat(2, [(0, 1, 4, 0), (0, 1, 4, 1)]), [0, 4])
        self.assertEqual(flat(2, [(0, 1, 4, 0), (1, 0, -4, 0)]), [0, 4])
        self.assertIsNone(flat(2, [(0, 1, 4, 0), (0, 1, 5, 0)]))
        self.assertIsNone(flat(2, [(0, 1, 4, 0), (1, 0, 4, 0)]))
        self.assertIsNone(flat(2, [(0, 1, HUGE, 0), (0, 1, HUGE + 1, 0)]))

    def test_none_where_a_ring_is_open(self):
        for number, (one, other, rise, hand) in enumerate(SQUARE):
            runs = list(SQUARE)
            runs[number] = (one, other, rise + 1, hand)
            self.assertEqual(flat(6, runs) is None, number != 5)

    def test_few_runs_against_all_rings(self):
        for size, runs in small_cases():
            self.assertEqual(flat(size, runs) is None, has_open_ring(size, runs))

    def test_many(self):
        both = set()
        for size, runs in itertools.chain(small_cases(), large_cases()):
            heights = check_call(self, flat, size, runs)
            both.add(heights is None)
            self.assertEqual(heights is None, not do_close(size, runs))
            if heights is not None:
                table = hang_together(size, runs)
                self.assertEqual(len(heights), size)
                for one, other, rise, hand in runs:
                    self.assertEqual(heights[other] - heights[one], rise)
                for mark in range(size):
                    if not any(table[mark][:mark]):
                        self.assertEqual(heights[mark], 0)
        self.assertEqual(both, {False, True})

    def test_somewhat_beyond_the_bounds(self):
        runs = [(mark, mark + 1, mark, 11) for mark in range(59)]
        self.assertEqual(flat(60, runs)[-1], sum(range(59)))
        self.assertEqual(groups(60, runs), [list(range(60))])
        self.assertIsNone(flat(60, runs + [(59, 0, 0, 12)]))
        self.assertEqual((groups(0, []), flat(0, [])), ([], []))


if __name__ == "__main__":
    unittest.main()
