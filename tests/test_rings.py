import itertools
import unittest

from fenlevel.rings import line_hands, open_ring, some_line, walked
from tests.helpers import (SQUARE, check_call, do_close, every_line, hang_together, has_open_ring, large_cases,
                           small_cases, some_struck)

HUGE = 10 ** 60


def plain_walk(runs, mark, line):
    """As walked, by counting."""
    total = 0
    for place, number in enumerate(line):
        if number < 0 or number >= len(runs) or number in line[:place] or mark not in runs[number][:2]:
            return None
        one, other, rise, hand = runs[number]
        total, mark = (total + rise, other) if mark == one else (total - rise, one)
    return mark, total


class Walked(unittest.TestCase):
    def test_up_and_back_down(self):
        self.assertEqual(walked(SQUARE, 0, (0,)), (1, 5))
        self.assertEqual(walked(SQUARE, 1, (0,)), (0, -5))
        self.assertEqual(walked(SQUARE, 0, (0, 1)), (2, 3))
        self.assertEqual(walked(SQUARE, 3, (2, 1, 0)), (0, 1))
        self.assertEqual(walked([(1, 0, -HUGE, 0), (1, 2, 1, 0)], 0, (0, 1)), (2, HUGE + 1))

    def test_rings_and_marks_come_to_twice(self):
        self.assertEqual(walked(SQUARE, 0, (0, 1, 2, 3)), (0, 0))
        self.assertEqual(walked(SQUARE, 0, (0, 1, 4, 3)), (3, -1))
        self.assertEqual(walked([(0, 1, 2, 0), (0, 1, 5, 0), (0, 1, 9, 0)], 0, (0, 1, 2)), (1, 6))

    def test_the_empty_line(self):
        self.assertEqual(walked(SQUARE, 3, ()), (3, 0))
        self.assertEqual(walked([], 0, ()), (0, 0))

    def test_no_line(self):
        for mark, line in [(0, (0, 0)), (0, (0, 1, 4, 0)), (0, (6,)), (0, (HUGE,)), (0, (-1,)), (5, (-1,)),
                           (4, (-1,)), (0, (-6,)), (0, (-HUGE,)), (0, (1,)), (4, (0,)), (0, (0, 2)),
                           (0, (4, 0)), (0, (0, 6)), (0, (0, -5)), (0, (0, 1, 1)), (5, (5, 5)), (9, (0,))]:
            with self.subTest(mark=mark, line=line):
                self.assertIsNone(walked(SQUARE, mark, line))
        self.assertIsNone(walked([], 0, (0,)))
        self.assertIsNone(walked([], 0, (-1,)))

    def test_every_small_tuple(self):
        runs = [(0, 1, 3, 0), (2, 1, -1, 1), (2, 0, 9, 2)]
        for length in range(5):
            for line in itertools.product(range(-4, 5), repeat=length):
                for mark in range(3):
                    self.assertEqual(walked(runs, mark, line), plain_walk(runs, mark, line))

    def test_changes_nothing(self):
        self.assertEqual(check_call(self, walked, SQUARE, 0, (0, 1)), (2, 3))
        self.assertEqual(check_call(self, walked, SQUARE, 4, ()), (4, 0))
        self.assertIsNone(check_call(self, walked, SQUARE, 0, (0, 0)))


class LineHands(unittest.TestCase):
    def test_growing_each_once(self):
        self.assertEqual(line_hands(SQUARE, (0, 1, 2, 3)), [0, 1, 2])
        self.assertEqual(line_hands(SQUARE, (3, 2, 1)), [0, 1, 2])
        self.assertEqual(line_hands(SQUARE, (4, 0)), [0, 3])
        self.assertEqual(line_hands(SQUARE, (0, 1)), [0, 1])
        self.assertEqual(line_hands([(0, 1, 1, 9), (1, 2, 1, 4), (2, 0, 1, 9)], (0, 1, 2)), [4, 9])

    def test_the_empty_line(self):
        self.assertEqual(line_hands(SQUARE, ()), [])
        self.assertEqual(line_hands([], ()), [])

    def test_every_line(self):
        for start in range(6):
            for line, end, rise in every_line(SQUARE, (), start):
                wanted = [hand for hand in range(10) if any(SQUARE[number][3] == hand for number in line)]
                self.assertEqual(check_call(self, line_hands, SQUARE, line), wanted)


class SomeLine(unittest.TestCase):
    def check(self, size, runs, struck, one, other, table):
        line = check_call(self, some_line, size, runs, struck, one, other)
        if not table[one][other]:
            self.assertIsNone(line)
            return
        self.assertIsInstance(line, tuple)
        self.assertEqual(plain_walk(runs, one, line)[0], other)
        for number in line:
            self.assertNotIn(runs[number][3], struck)

    def test_forced_lines(self):
        runs = [(2, 1, 9, 4), (2, 1, 5, 0), (0, 1, 1, 3), (3, 2, 1, 5)]
        self.assertEqual(some_line(4, runs, [4], 0, 3), (2, 1, 3))
        self.assertEqual(some_line(4, runs, [0], 3, 0), (3, 0, 2))
        self.assertIsNone(some_line(4, runs, [0, 4], 0, 3))
        self.assertIsNone(some_line(4, runs, [3], 0, 3))
        self.assertIsNone(some_line(6, SQUARE, [], 0, 4))

    def test_from_a_mark_to_itself(self):
        for mark in range(6):
            for struck in ([], [0, 1], list(range(10))):
                self.assertEqual(some_line(6, SQUARE, struck, mark, mark), ())
        self.assertEqual(some_line(1, [], [], 0, 0), ())
        self.assertEqual(some_line(2, [(0, 1, 1, 0), (0, 1, 2, 1)], [], 1, 1), ())

    def test_small_ones(self):
        for size, runs in small_cases():
            for struck in ([], [0], [1], [5, 1, 0]):
                table = hang_together(size, runs, struck)
                for one, other in ((0, 1), (2, 0), (1, 2), (1, 1)):
                    self.check(size, runs, struck, one, other, table)

    def test_large_ones(self):
        for size, runs in large_cases():
            for struck in some_struck(runs):
                table = hang_together(size, runs, struck)
                for one, other in itertools.product(range(0, size, 3), range(size)):
                    self.check(size, runs, struck, one, other, table)


class OpenRing(unittest.TestCase):
    def check(self, size, runs, struck):
        """True where a ring is told; what is told is checked either way."""
        ring = check_call(self, open_ring, size, runs, struck)
        self.assertEqual(ring is None, do_close(size, runs, struck))
        if ring is None:
            return False
        self.assertIsInstance(ring, tuple)
        mark, line = ring
        self.assertIsInstance(line, tuple)
        self.assertIn(mark, range(size))
        self.assertEqual(len(set(line)), len(line))
        end, rise = plain_walk(runs, mark, line)
        self.assertEqual(end, mark)
        self.assertNotEqual(rise, 0)
        for number in line:
            self.assertNotIn(runs[number][3], struck)
        return True

    def test_two_runs_between_the_same_marks(self):
        for first, second, opened in [((0, 1, 4, 0), (0, 1, 5, 1), True), ((0, 1, 4, 0), (1, 0, 4, 0), True),
                                      ((0, 1, 4, 0), (1, 0, -4, 0), False), ((0, 1, 4, 0), (0, 1, 4, 1), False),
                                      ((1, 0, HUGE, 0), (0, 1, 1 - HUGE, 0), True)]:
            ring = open_ring(2, [first, second], [])
            self.assertEqual(ring is not None, opened)
            if opened:
                self.assertEqual(sorted(ring[1]), [0, 1])
            self.assertEqual(self.check(2, [first, second], []), opened)

    def test_no_rings(self):
        self.assertIsNone(open_ring(1, [], []))
        self.assertIsNone(open_ring(4, [(0, 1, 9, 0), (2, 1, 8, 0), (2, 3, 7, 0)], []))
        self.assertIsNone(open_ring(6, SQUARE, []))

    def test_the_others_close(self):
        runs = SQUARE + [(4, 5, -6, 4)]
        self.assertTrue(self.check(6, runs, []))
        self.assertTrue(self.check(6, runs, [0, 2, 3]))
        self.assertIsNone(open_ring(6, runs, [4]))
        self.assertIsNone(open_ring(6, runs, [1]))
        self.assertIsNone(open_ring(6, runs, list(range(10))))

    def test_a_ring_far_from_the_least_mark(self):
        runs = [(0, 1, 1, 0), (1, 2, 1, 0), (2, 3, 1, 0), (3, 4, 1, 0), (4, 2, 1, 0)]
        mark, line = open_ring(5, runs, [])
        self.assertEqual(sorted(line), [2, 3, 4])
        self.assertIn(mark, (2, 3, 4))
        self.assertTrue(self.check(5, runs, []))

    def test_few_runs_against_all_rings(self):
        for size, runs in small_cases():
            for struck in ([], [0], [1, 0]):
                self.assertEqual(open_ring(size, runs, struck) is not None, has_open_ring(size, runs, struck))
                self.check(size, runs, struck)

    def test_many(self):
        found = [self.check(size, runs, struck)
                 for size, runs in large_cases() for struck in some_struck(runs)]
        self.assertEqual(set(found), {False, True})

    def test_somewhat_beyond_the_bounds(self):
        runs = [(mark, mark + 1, 1, 10 + mark) for mark in range(59)] + [(0, 59, 58, 3)]
        self.assertTrue(self.check(60, runs, []))
        self.assertEqual(len(open_ring(60, runs, [])[1]), 60)
        self.assertEqual(some_line(60, runs, [3], 0, 59), tuple(range(59)))
        self.assertIsNone(open_ring(60, runs, [3]))


if __name__ == "__main__":
    unittest.main()
