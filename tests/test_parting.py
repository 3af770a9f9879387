import itertools
import random
import unittest

from fenlevel.parting import foe, parting, parts
from fenlevel.readings import is_reading
from fenlevel.sure import told
from tests.helpers import (SQUARE, check_call, hand_cases, hang_together, large_cases, plain_parting, plain_told,
                           plain_views, small_cases, some_struck, with_rises, worst_cases)

HUGE = 10 ** 60
# From 0 to 2 by way of 1, with hands 4 and 7 at the first step and 2, 5 and 7 at the second one; mark 3 is alone.
STEPS = [(0, 1, 3, 7), (1, 0, 9, 4), (2, 1, HUGE, 5), (1, 2, 0, 2), (1, 2, -1, 7)]


def some_pairs(size):
    """All pairs of marks where they are few, else some of them, a mark and itself among them."""
    pairs = list(itertools.product(range(size), repeat=2))
    return pairs if size < 4 else pairs[::size - 2]


def other_rises(runs, source):
    """The same runs laid out, with other rises."""
    return [(one, other, source.choice((-HUGE, 0, 7)), hand) for one, other, rise, hand in runs]


def plain_parts(size, runs, struck, one, other):
    """As parts, by a table of all marks."""
    return not hang_together(size, runs, struck)[one][other]


def disjoint_lines(source, lines, size):
    """Runs between marks 0 and 1 in so many lines, no two with a hand in common, and runs of the same hands
    beside them; the rises are nought as yet."""
    hands = list(range(10))
    source.shuffle(hands)
    shares = [hands[place::lines] for place in range(lines)]
    runs = []
    for share in shares:
        marks = [0] + source.sample(range(2, size), source.randrange(0, 3)) + [1]
        for one, other in itertools.pairwise(marks):
            ends = source.sample([one, other], 2)
            runs.append((ends[0], ends[1], 0, source.choice(share)))
    while len(runs) < 40:
        one, other = source.sample(range(2, size), 2)
        runs.append((one, other, 0, source.choice(hands)))
    source.shuffle(runs)
    return runs


def told_by(source, runs, truth, false):
    """The runs as hands tell them of which some are false, each in its own way."""
    second = [source.randrange(-3, 4) for mark in truth]
    ways = {hand: source.randrange(3) for hand in false}
    rises = []
    for one, other, rise, hand in runs:
        right = truth[other] - truth[one]
        rises.append({None: right, 0: second[other] - second[one], 1: right + source.randrange(-1, 2),
                      2: right + 1}[ways.get(hand)])
    return with_rises(runs, rises)


class Parts(unittest.TestCase):
    def check(self, size, runs, struck, one, other):
        answer = check_call(self, parts, size, runs, struck, one, other)
        self.assertIsInstance(answer, bool)
        self.assertEqual(answer, plain_parts(size, runs, struck, one, other))
        return answer

    def test_steps(self):
        for struck, wanted in [([], False), ([7], False), ([4], False), ([7, 4], True), ([2, 5], False),
                               ([7, 5], False), ([2, 7, 5], True), ([5, 2, 7, 4], True)]:
            self.assertIs(self.check(4, STEPS, struck, 0, 2), wanted)
            self.assertIs(self.check(4, STEPS, struck, 2, 0), wanted)

    def test_no_hands_and_all_hands(self):
        self.assertIs(self.check(6, SQUARE, [], 3, 1), False)
        self.assertIs(self.check(6, SQUARE, [], 3, 5), True)
        self.assertIs(self.check(6, SQUARE, [0, 1, 2, 3], 3, 1), True)
        self.assertIs(self.check(6, SQUARE, list(range(10)), 4, 5), True)

    def test_hands_without_a_run(self):
        for struck in ([9], [4, 5, 6], [77, -3], [HUGE]):
            self.assertIs(self.check(6, SQUARE, struck, 4, 5), False)
            self.assertIs(self.check(6, SQUARE, struck, 4, 0), True)

    def test_a_mark_and_itself(self):
        for struck in ([], [1], list(range(10))):
            for mark in range(6):
                self.assertIs(self.check(6, SQUARE, struck, mark, mark), False)
            self.assertIs(self.check(1, [], struck, 0, 0), False)

    def test_two_marks_without_any_run(self):
        self.assertIs(self.check(2, [], [], 0, 1), True)
        self.assertIs(self.check(12, [], [3], 11, 0), True)
        self.assertIs(self.check(4, STEPS, [], 3, 0), True)

    def test_the_rises_play_no_part(self):
        source = random.Random(3)
        for size, runs in hand_cases():
            for struck in some_struck(runs):
                one, other = source.randrange(size), source.randrange(size)
                self.assertIs(parts(size, runs, struck, one, other),
                              parts(size, other_rises(runs, source), struck, one, other))

    def test_few_runs(self):
        for size, runs in small_cases():
            for struck in ([], [0], [1], [1, 0], [5]):
                table = hang_together(size, runs, struck)
                for one, other in itertools.product(range(size), repeat=2):
                    self.assertIs(parts(size, runs, struck, one, other), not table[one][other])

    def test_many(self):
        for size, runs in large_cases():
            for struck in some_struck(runs):
                for one, other in some_pairs(size)[:5]:
                    self.check(size, runs, struck, one, other)


class Parting(unittest.TestCase):
    def check_all(self, size, runs, many, pairs):
        """What is told of each pair; all of it is checked."""
        wanted = plain_parting(size, runs, many, pairs)
        for one, other in pairs:
            with self.subTest(runs=runs, many=many, one=one, other=other):
                self.assertEqual(check_call(self, parting, size, runs, many, one, other), wanted[one, other])
        return wanted

    def test_the_least_list_and_the_first_of_one_length(self):
        self.assertEqual(parting(4, STEPS, 10, 0, 2), [4, 7])
        self.assertEqual(parting(4, STEPS, 2, 2, 0), [4, 7])
        self.assertEqual(parting(4, STEPS, 10, 1, 2), [2, 5, 7])
        # By length 3 goes first, though [1, 2] goes ahead of it as Python orders lists.
        runs = [(0, 1, 0, 1), (0, 1, 0, 2), (1, 2, 0, 3)]
        self.assertEqual(parting(3, runs, 10, 0, 2), [3])
        self.assertEqual(parting(3, runs + [(1, 2, 0, 9)], 10, 0, 2), [1, 2])
        # No list of the first length that goes ahead parts the two.
        runs = [(0, 1, 0, 0), (0, 1, 0, 9), (1, 2, 0, 1), (1, 2, 0, 8), (1, 2, 0, 0)]
        self.assertEqual(parting(3, runs, 10, 0, 2), [0, 9])

    def test_no_list_of_so_many(self):
        self.assertIsNone(parting(4, STEPS, 1, 0, 2))
        self.assertIsNone(parting(4, STEPS, 0, 0, 2))
        self.assertIsNone(parting(4, STEPS, 2, 1, 2))
        runs = [(0, 1, 5, hand) for hand in range(10)]
        for many in range(10):
            self.assertIsNone(parting(2, runs, many, 0, 1))
        self.assertEqual(parting(2, runs, 10, 0, 1), list(range(10)))

    def test_marks_that_do_not_hang_together(self):
        for many in range(11):
            self.assertEqual(check_call(self, parting, 4, STEPS, many, 3, 0), [])
            self.assertEqual(check_call(self, parting, 2, [], many, 0, 1), [])

    def test_a_mark_and_itself(self):
        for many in range(11):
            self.assertIsNone(parting(4, STEPS, many, 1, 1))
            self.assertIsNone(parting(4, STEPS, many, 3, 3))
            self.assertIsNone(parting(1, [], many, 0, 0))

    def test_only_hands_that_the_runs_have(self):
        for size, runs in hand_cases():
            answer = parting(size, runs, 10, 0, size - 1)
            self.assertLessEqual(set(answer or []), {run[3] for run in runs})

    def test_the_rises_play_no_part(self):
        source = random.Random(4)
        for size, runs in hand_cases():
            for many in (1, 4, 10):
                one, other = source.randrange(size), source.randrange(size)
                self.assertEqual(parting(size, runs, many, one, other),
                                 parting(size, other_rises(runs, source), many, one, other))

    def test_few_runs(self):
        for size, runs in small_cases():
            for many in (0, 1, 2, 10):
                self.check_all(size, runs, many, [(0, 1), (2, 0), (1, 1)])

    def test_many(self):
        source = random.Random(8)
        lengths = set()
        for size, runs in hand_cases():
            pairs = source.sample(some_pairs(size), min(4, len(some_pairs(size))))
            for many in (0, 1, 2, 3, 6, 10):
                found = self.check_all(size, runs, many, pairs)
                lengths.update(None if struck is None else len(struck) for struck in found.values())
        self.assertLessEqual({None, 0, 1, 2, 3, 4, 5, 6}, lengths)

    def test_forty_runs_of_ten_hands(self):
        for size, runs, answer in worst_cases():
            for many in (0, 6, 10):
                self.check_all(size, runs, many, [(0, 5), (5, 1), (4, 4)])


class Foe(unittest.TestCase):
    def check(self, size, runs, many, one, other, wanted):
        """A book, or None, for hands that part the two, or None; all that is told is checked."""
        with self.subTest(runs=runs, many=many, one=one, other=other):
            book = check_call(self, foe, size, runs, many, one, other)
            self.assertEqual(book is None, wanted is None)
            if book is not None:
                self.check_book(size, runs, many, one, other, book)
        return book

    def check_book(self, size, runs, many, one, other, book):
        self.assertIsInstance(book, tuple)
        rises, first, second = book
        self.assertIsInstance(rises, list)
        self.assertEqual(len(rises), len(runs))
        self.assertTrue(all(type(rise) is int for rise in rises))
        laid = with_rises(runs, rises)
        for reading in (first, second):
            self.assertIsInstance(reading, tuple)
            false, heights = reading
            self.assertIsInstance(false, list)
            self.assertIsInstance(heights, list)
            self.assertTrue(is_reading(size, laid, many, reading))
        self.assertNotEqual(first[1][other] - first[1][one], second[1][other] - second[1][one])
        self.assertEqual(told(size, laid, many, one, other)[0], "open")

    def check_all(self, size, runs, many, pairs):
        """Whether there was a book and whether there was none; all that is told is checked."""
        wanted = plain_parting(size, runs, 2 * many, pairs)
        return {self.check(size, runs, many, one, other, wanted[one, other]) is None for one, other in pairs}

    def test_just_where_no_twice_so_many_part_the_two(self):
        self.check(4, STEPS, 1, 0, 2, [4, 7])
        self.check(4, STEPS, 0, 0, 2, None)
        self.check(4, STEPS, 1, 1, 2, None)
        for lines in range(1, 9):
            runs = [(0, 1, 5, hand) for hand in range(lines)]
            for many in range(4):
                self.check(2, runs, many, 0, 1, list(range(lines)) if lines <= 2 * many else None)

    def test_an_odd_number_of_hands(self):
        self.check(4, STEPS, 2, 1, 2, [2, 5, 7])
        for lines, many in [(1, 1), (3, 2), (1, 2), (5, 3), (1, 3)]:
            runs = [(0, 1, 5, hand) for hand in range(lines)]
            rises, first, second = self.check(2, runs, many, 0, 1, list(range(lines)))
            self.assertEqual(sorted(first[0] + second[0]), list(range(lines)))

    def test_marks_that_do_not_hang_together(self):
        for many in range(4):
            self.check(4, STEPS, many, 3, 0, [])
            self.check(4, STEPS, many, 2, 3, [])
            self.check(2, [], many, 0, 1, [])
            self.check(12, [], many, 11, 3, [])
        rises, first, second = foe(4, STEPS, 0, 0, 3)
        self.assertEqual((first[0], second[0]), ([], []))

    def test_a_mark_and_itself(self):
        for many in range(4):
            for mark in range(4):
                self.assertIsNone(foe(4, STEPS, many, mark, mark))
            self.assertIsNone(foe(1, [], many, 0, 0))

    def test_runs_of_hands_that_part_the_two_beside_them(self):
        # Hand 0 has runs on both sides of what it parts, and hand 1 along with others.
        runs = [(0, 2, 4, 0), (2, 1, 4, 1), (0, 2, 4, 1), (3, 0, 4, 0), (1, 4, 4, 0), (4, 1, 4, 2), (3, 4, 4, 1)]
        for many in range(4):
            self.check_all(5, runs, many, list(itertools.product(range(5), repeat=2)))

    def test_the_rises_play_no_part(self):
        source = random.Random(5)
        for size, runs in hand_cases():
            for many in range(4):
                one, other = source.randrange(size), source.randrange(size)
                self.assertEqual(foe(size, runs, many, one, other) is None,
                                 foe(size, other_rises(runs, source), many, one, other) is None)

    def test_few_runs(self):
        for size, runs in small_cases():
            for many in (0, 1, 2):
                self.check_all(size, runs, many, [(0, 1), (2, 0), (1, 1)])

    def test_many(self):
        source = random.Random(9)
        for many in range(4):
            kinds = set()
            for size, runs in hand_cases():
                pairs = source.sample(some_pairs(size), min(4, len(some_pairs(size))))
                kinds |= self.check_all(size, runs, many, pairs)
            self.assertEqual(kinds, {True, False})

    def test_forty_runs_of_ten_hands(self):
        for size, runs, answer in worst_cases():
            for many in range(4):
                self.check_all(size, runs, many, [(0, 5), (5, 1), (4, 4)])


class MadeSureAhead(unittest.TestCase):
    def check_sure(self, runs, many, one, other, truth):
        answer = told(len(truth), runs, many, one, other)
        self.assertEqual(answer[:2], ("sure", truth[other] - truth[one]))

    def test_lines_without_a_hand_in_common(self):
        source = random.Random(16)
        for many in range(4):
            for turn in range(25):
                size = source.randrange(5, 13)
                truth = [source.randrange(-HUGE, HUGE) for mark in range(size)]
                runs = disjoint_lines(source, 2 * many + 1, size)
                self.assertIsNone(foe(size, runs, many, 0, 1))
                self.assertIsNone(parting(size, runs, 2 * many, 0, 1))
                for false in range(many + 1):
                    laid = told_by(source, runs, truth, source.sample(range(10), false))
                    self.check_sure(laid, many, 0, 1, truth)
                    self.check_sure(laid, many, 1, 0, truth)

    def test_fewer_lines(self):
        for many in range(1, 4):
            for lines in range(1, 2 * many + 1):
                # Each line has hands of its own, so one of each line parts the two.
                runs = [(0, 2 + hand, 0, hand) for hand in range(lines)]
                runs += [(2 + hand, 1, 0, hand) for hand in range(lines)]
                self.assertEqual(parting(12, runs, 2 * many, 0, 1), list(range(lines)))
                self.assertIsNotNone(foe(12, runs, many, 0, 1))

    def test_sure_whatever_is_told_just_where_there_is_no_foe(self):
        source = random.Random(17)
        books = set()
        for size, runs in hand_cases():
            for many in range(4):
                one, other = source.randrange(size), source.randrange(size)
                book = foe(size, runs, many, one, other)
                books.add(book is None)
                if book is None:
                    truth = [source.randrange(-9, 10) for mark in range(size)]
                    for turn in range(3):
                        false = source.sample(range(10), many)
                        self.check_sure(told_by(source, runs, truth, false), many, one, other, truth)
                else:
                    laid = with_rises(runs, book[0])
                    self.assertEqual(plain_told(plain_views(size, laid, many), one, other), ("open",))
        self.assertEqual(books, {True, False})


if __name__ == "__main__":
    unittest.main()
